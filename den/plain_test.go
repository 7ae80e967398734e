package den_test

import (
	"fmt"
	"math"
	"slices"

	"equerry/api"
	"equerry/pred"
	"equerry/tree"
)

const (
	mostTime   = 1 << 40
	mostWindow = 1 << 20
)

// nodes are nodes, one behind the other.
type nodes = []api.Node

func asked(topic uint8, tests ...api.Test) api.Pred { return api.Pred{Topic: topic, Tests: tests} }

func ofAny(tests ...api.Test) api.Pred { return api.Pred{Any: true, Tests: tests} }

func whole(n int64) api.Value { return api.Value{Kind: api.Whole, Int: n} }

func text(s string) api.Value { return api.Value{Kind: api.Text, Text: s} }

func has(field uint8) api.Test { return api.Test{Field: field, Op: api.Has} }

func above(field uint8, n int64) api.Test {
	return api.Test{Field: field, Op: api.Gt, Value: whole(n)}
}

// asks is a One of a question.
func asks(p api.Pred) nodes { return nodes{{Kind: api.One, Pred: p}} }

// one is a One of a topic.
func one(topic uint8) nodes { return asks(asked(topic)) }

// each is a One of any topic.
func each() nodes { return asks(ofAny()) }

// node is a node of a kind with parts.
func node(kind uint8, parts ...nodes) nodes {
	behind := slices.Concat(parts...)
	return slices.Concat(nodes{{Kind: kind, Size: len(behind)}}, behind)
}

func seq(parts ...nodes) nodes { return node(api.Seq, parts...) }

func alt(parts ...nodes) nodes { return node(api.Alt, parts...) }

func rep(lo, hi uint8, part nodes) nodes {
	l := node(api.Rep, part)
	l[0].Lo, l[0].Hi = lo, hi
	return l
}

// guarded are nodes of which the first one is Guarded.
func guarded(guard api.Pred, l nodes) nodes {
	l = slices.Clone(l)
	l[0].Guarded, l[0].Guard = true, guard
	return l
}

// ones are Ones of some topics.
func ones(topics ...uint8) []nodes {
	var all []nodes
	for _, topic := range topics {
		all = append(all, one(topic))
	}
	return all
}

// within is a pattern with a window.
func within(window uint64, l nodes) api.Pattern { return api.Pattern{Nodes: l, Window: window} }

// of is a pattern whose window is as great as may be.
func of(l nodes) api.Pattern { return within(mostWindow, l) }

// event is an event in the log.
func event(at uint64, topic uint8, fields ...api.Value) api.Logged {
	return api.Logged{Pub: 7, Seq: 100 - at, At: at, Event: api.Event{Topic: topic, Fields: fields}}
}

// row is a row of events of some topics, one a tick.
func row(topics ...uint8) []api.Logged {
	var all []api.Logged
	for i, topic := range topics {
		all = append(all, event(uint64(i), topic))
	}
	return all
}

// at is a row of events of one topic, at some times.
func at(topic uint8, times ...uint64) []api.Logged {
	var all []api.Logged
	for _, time := range times {
		all = append(all, event(time, topic))
	}
	return all
}

// times are n times one topic.
func times(n int, topic uint8) []uint8 { return slices.Repeat([]uint8{topic}, n) }

// m is a match.
func m(from, to uint64) api.Match { return api.Match{From: from, To: to} }

// noise is n numbers that look like chance, and are the same each time.
func noise(seed uint64, n int) []uint64 {
	all := make([]uint64, n)
	for i := range all {
		seed = seed*6364136223846793005 + 1442695040888963407
		all[i] = seed ^ seed>>29
	}
	return all
}

// eachRow calls for all rows of at most n events of some topics, one a tick.
func eachRow(topics []uint8, n int, call func(l []api.Logged)) {
	rows := [][]uint8{nil}
	for len(rows) > 0 {
		ahead := rows[0]
		rows = rows[1:]
		call(row(ahead...))
		for _, topic := range topics {
			if len(ahead) < n {
				rows = append(rows, append(slices.Clone(ahead), topic))
			}
		}
	}
}

// splits are all rows of at least two numbers, each at least 1, that are n together.
func splits(n int) [][]int {
	var all [][]int
	for ahead := 1; ahead < n; ahead++ {
		all = append(all, []int{ahead, n - ahead})
		for _, rest := range splits(n - ahead) {
			all = append(all, append([]int{ahead}, rest...))
		}
	}
	return all
}

// forests are all ways to have shapes of so many nodes each, one behind the other.
func forests(sizes []int) [][]nodes {
	all := [][]nodes{nil}
	for _, n := range sizes {
		var longer [][]nodes
		for _, ahead := range all {
			for _, shape := range shapes(n) {
				longer = append(longer, append(slices.Clone(ahead), shape))
			}
		}
		all = longer
	}
	return all
}

// shapes are all nodes' patterns of n nodes, of each kind that may stand there, with a guard and without one; what they ask is left open.
func shapes(n int) []nodes {
	if n == 1 {
		return []nodes{each()}
	}
	var all []nodes
	for _, part := range shapes(n - 1) {
		all = append(all, rep(1, 2, part), guarded(ofAny(), rep(2, 3, part)))
	}
	for _, sizes := range splits(n - 1) {
		for _, parts := range forests(sizes) {
			all = append(all, seq(parts...), guarded(ofAny(), seq(parts...)), alt(parts...))
		}
	}
	return all
}

// asking is a shape whose questions are some of those handed in, by noise.
func asking(l nodes, seed uint64, questions []api.Pred) nodes {
	l = slices.Clone(l)
	c := noise(seed, len(l))
	for i := range l {
		question := questions[c[i]>>8%uint64(len(questions))]
		if l[i].Kind == api.One {
			l[i].Pred = question
		}
		if l[i].Guarded {
			l[i].Guard = question
		}
	}
	return l
}

// grown is a node's pattern by noise, of some n nodes; what they ask is left open.
func grown(seed uint64, n int) nodes {
	c := noise(seed, 3)
	if n <= 1 {
		return each()
	}
	var l nodes
	if n == 2 || c[1]%4 == 0 {
		lo := uint8(1 + c[2]>>4%2)
		l = rep(lo, lo+uint8(c[2]>>8%2), grown(c[0], n-1))
	} else {
		ahead := 1 + int(c[2]%uint64(n-2))
		l = node(api.Seq+uint8(c[2]>>16%2), grown(c[0], ahead), grown(c[1], n-1-ahead))
	}
	if c[2]>>24%3 == 0 && l[0].Kind != api.Alt {
		l = guarded(ofAny(), l)
	}
	return l
}

// grownRow is a row of n events by noise, whose times go on by at most 2, and whose fields tell numbers and texts.
func grownRow(seed uint64, n int) []api.Logged {
	var all []api.Logged
	time := seed % 1000
	for _, c := range noise(seed, n) {
		e := event(time, uint8(1+c>>8%3))
		for k := range c >> 16 % 3 {
			e.Event.Fields = append(e.Event.Fields, []api.Value{{}, whole(int64(c >> 20 % 10)), text("ab"[c>>24%3:])}[(k+c>>28)%3])
		}
		all = append(all, e)
		time += c >> 32 % 3
	}
	return all
}

// questions are questions of which some hold of events of the topics 1 to 3.
func questions() []api.Pred {
	return []api.Pred{
		asked(1), asked(2), asked(3), asked(1), asked(2), ofAny(), asked(1, has(0)), asked(2, above(0, 4)),
		ofAny(has(1)), ofAny(api.Test{Op: api.Begins, Value: text("a")}),
	}
}

// told is a pattern as a message tells it.
func told(p api.Pattern) string {
	s := fmt.Sprintf("window %d of", p.Window)
	for _, n := range p.Nodes {
		s += fmt.Sprintf(" (%d of %d", n.Kind, n.Size)
		if n.Kind == api.One {
			s += fmt.Sprintf(" asks %v", n.Pred)
		}
		if n.Hi > 0 {
			s += fmt.Sprintf(" %d to %d times", n.Lo, n.Hi)
		}
		if n.Guarded {
			s += fmt.Sprintf(" guarded by %v", n.Guard)
		}
		s += ")"
	}
	return s
}

// toldRow is a row of events as a message tells it.
func toldRow(l []api.Logged) string {
	s := fmt.Sprintf("%d events:", len(l))
	for _, e := range l[:min(len(l), 40)] {
		s += fmt.Sprintf(" %d%v at %d", e.Event.Topic, e.Event.Fields, e.At)
	}
	return s
}

// copiedPattern is a pattern in memory that no other one has.
func copiedPattern(p api.Pattern) api.Pattern {
	c := api.Pattern{Nodes: append(nodes{}, p.Nodes...), Window: p.Window}
	for i := range c.Nodes {
		c.Nodes[i].Pred.Tests = append([]api.Test{}, p.Nodes[i].Pred.Tests...)
		c.Nodes[i].Guard.Tests = append([]api.Test{}, p.Nodes[i].Guard.Tests...)
	}
	return c
}

// copiedRow is a row in memory that no other one has.
func copiedRow(l []api.Logged) []api.Logged {
	c := append([]api.Logged{}, l...)
	for i := range c {
		c[i].Event.Fields = append([]api.Value{}, l[i].Event.Fields...)
	}
	return c
}

// sameValue tells whether two values are the same to the last bit.
func sameValue(a, b api.Value) bool {
	return a.Kind == b.Kind && a.Int == b.Int && math.Float64bits(a.Real) == math.Float64bits(b.Real) && a.Text == b.Text
}

// sameLogged tells whether two events in the log are the same to the last bit.
func sameLogged(a, b api.Logged) bool {
	return a.Pub == b.Pub && a.Seq == b.Seq && a.At == b.At && a.Event.Topic == b.Event.Topic && slices.EqualFunc(a.Event.Fields, b.Event.Fields, sameValue)
}

// plainMeaning is the chapter's words, asked of two places at a time.
type plainMeaning struct {
	nodes nodes
	row   []api.Logged
	known map[[4]int]bool
}

func plainOf(p api.Pattern, l []api.Logged) plainMeaning {
	return plainMeaning{p.Nodes, l, map[[4]int]bool{}}
}

// parts is at which nodes the parts of a node begin.
func (p plainMeaning) parts(n int) []int {
	var all []int
	for k := n + 1; k <= n+p.nodes[n].Size; k += 1 + p.nodes[k].Size {
		all = append(all, k)
	}
	return all
}

// happens tells whether the pattern of a node happens from i to j.
func (p plainMeaning) happens(n, i, j int) bool {
	switch p.nodes[n].Kind {
	case 1:
		return i == j && pred.Holds(p.nodes[n].Pred, p.row[i].Event)
	case 2:
		return p.behindEachOther(n, p.parts(n), i, j)
	case 3:
		return slices.ContainsFunc(p.parts(n), func(part int) bool { return p.happens(part, i, j) })
	}
	for times := p.nodes[n].Lo; times <= p.nodes[n].Hi; times++ {
		if p.behindEachOther(n, slices.Repeat(p.parts(n), int(times)), i, j) {
			return true
		}
	}
	return false
}

// behindEachOther tells whether parts of a node happen one behind the other, the first one from i, the last one to j.
func (p plainMeaning) behindEachOther(n int, parts []int, i, j int) bool {
	if len(parts) == 1 {
		return p.happens(parts[0], i, j)
	}
	key := [4]int{n, len(parts), i, j}
	if answer, known := p.known[key]; known {
		return answer
	}
	answer := false
	for k := i; k < j; k++ {
		for l := k + 1; l <= j; l++ {
			answer = answer || p.happens(parts[0], i, k) && p.free(n, k, l) && p.behindEachOther(n, parts[1:], l, j)
		}
	}
	p.known[key] = answer
	return answer
}

// free tells whether a node's Guard, if it has one, holds of no event between two places.
func (p plainMeaning) free(n, k, l int) bool {
	for _, e := range p.row[k+1 : l] {
		if p.nodes[n].Guarded && pred.Holds(p.nodes[n].Guard, e.Event) {
			return false
		}
	}
	return true
}

// plainMatches is the chapter's, of what may be.
func plainMatches(p api.Pattern, l []api.Logged) []api.Match {
	meaning := plainOf(p, l)
	var all []api.Match
	for j := range l {
		for i := range j + 1 {
			if l[j].At <= l[i].At+p.Window && meaning.happens(0, i, j) {
				all = append(all, m(uint64(i), uint64(j)))
			}
		}
	}
	return all
}

// step is a question that an event must answer, and another one that mustn't hold between it and the step ahead.
type step struct {
	asked   api.Pred
	guarded bool
	guard   api.Pred
}

// wordsOf are all rows of single events that a node's pattern stands for.
func wordsOf(l nodes) [][]step {
	switch l[0].Kind {
	case api.One:
		return [][]step{{{asked: l[0].Pred}}}
	case api.Alt:
		var all [][]step
		for _, part := range tree.Parts(l) {
			all = append(all, wordsOf(part)...)
		}
		return all
	case api.Seq:
		words := [][]step{nil}
		for _, part := range tree.Parts(l) {
			words = lengthened(words, wordsOf(part), l[0])
		}
		return words
	}
	var all [][]step
	words := [][]step{nil}
	for times := 1; times <= int(l[0].Hi); times++ {
		words = lengthened(words, wordsOf(l[1:]), l[0])
		if times >= int(l[0].Lo) {
			all = append(all, words...)
		}
	}
	return all
}

// lengthened are all words ahead with all words behind, and a node's Guard between them.
func lengthened(ahead, behind [][]step, n api.Node) [][]step {
	var all [][]step
	for _, a := range ahead {
		for _, b := range behind {
			word := slices.Concat(a, b)
			if len(a) > 0 {
				word[len(a)].guarded, word[len(a)].guard = n.Guarded, n.Guard
			}
			all = append(all, word)
		}
	}
	return all
}

// spelt tells whether a word's first step is answered at i, its next ones at later places, and its last one at j.
func spelt(word []step, l []api.Logged, i, j int) bool {
	if !pred.Holds(word[0].asked, l[i].Event) {
		return false
	}
	if len(word) == 1 {
		return i == j
	}
	for k := i + 1; k <= j; k++ {
		if spelt(word[1:], l, k, j) {
			return true
		}
		if word[1].guarded && pred.Holds(word[1].guard, l[k].Event) {
			return false
		}
	}
	return false
}

// speltMatches are the matches of words, within a window.
func speltMatches(words [][]step, window uint64, l []api.Logged) []api.Match {
	var all []api.Match
	for j := range l {
		for i := range j + 1 {
			if l[j].At-l[i].At <= window && slices.ContainsFunc(words, func(word []step) bool { return spelt(word, l, i, j) }) {
				all = append(all, m(uint64(i), uint64(j)))
			}
		}
	}
	return all
}
