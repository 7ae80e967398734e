package auto_test

import (
	"fmt"
	"slices"

	"equerry/api"
	"equerry/pred"
	"equerry/tree"
)

const (
	mostWindow = 1 << 20
	mostEdges  = 64
)

// nodes are nodes, one behind the other.
type nodes = []api.Node

func asked(topic uint8, tests ...api.Test) api.Pred { return api.Pred{Topic: topic, Tests: tests} }

func ofAny(tests ...api.Test) api.Pred { return api.Pred{Any: true, Tests: tests} }

func whole(n int64) api.Value { return api.Value{Kind: api.Whole, Int: n} }

func text(s string) api.Value { return api.Value{Kind: api.Text, Text: s} }

func has(field uint8) api.Test { return api.Test{Field: field, Op: api.Has} }

func above(field uint8, n int64) api.Test {
	return api.Test{Field: field, Op: api.Gt, Value: whole(n)}
}

func begins(field uint8, s string) api.Test {
	return api.Test{Field: field, Op: api.Begins, Value: text(s)}
}

// asks is a One of a question.
func asks(p api.Pred) nodes { return nodes{{Kind: api.One, Pred: p}} }

// one is a One of a topic.
func one(topic uint8) nodes { return asks(asked(topic)) }

// each is a One of any topic.
func each() nodes { return asks(ofAny()) }

// node is a node of a kind with parts.
func node(kind uint8, parts ...nodes) nodes {
	behind := slices.Concat(parts...)
	return slices.Concat(nodes{{Kind: kind, Size: len(behind)}}, behind)
}

func seq(parts ...nodes) nodes { return node(api.Seq, parts...) }

func alt(parts ...nodes) nodes { return node(api.Alt, parts...) }

func rep(lo, hi uint8, part nodes) nodes {
	l := node(api.Rep, part)
	l[0].Lo, l[0].Hi = lo, hi
	return l
}

// guarded are nodes of which the first one is Guarded.
func guarded(guard api.Pred, l nodes) nodes {
	l = slices.Clone(l)
	l[0].Guarded, l[0].Guard = true, guard
	return l
}

// not are nodes of which the first one is Guarded by a topic.
func not(topic uint8, l nodes) nodes { return guarded(asked(topic), l) }

// times are n times the same part.
func times(n int, part nodes) []nodes { return slices.Repeat([]nodes{part}, n) }

// within is a pattern with a window.
func within(window uint64, l nodes) api.Pattern { return api.Pattern{Nodes: l, Window: window} }

// of is a pattern whose window is as great as may be.
func of(l nodes) api.Pattern { return within(mostWindow, l) }

// event is an event in the log.
func event(at uint64, topic uint8, fields ...api.Value) api.Logged {
	return api.Logged{Pub: 7, Seq: 100 - at, At: at, Event: api.Event{Topic: topic, Fields: fields}}
}

// row is a row of events of some topics, one a tick.
func row(topics ...uint8) []api.Logged {
	var all []api.Logged
	for i, topic := range topics {
		all = append(all, event(uint64(i), topic))
	}
	return all
}

// m is a match.
func m(from, to uint64) api.Match { return api.Match{From: from, To: to} }

// noise is n numbers that look like chance, and are the same each time.
func noise(seed uint64, n int) []uint64 {
	all := make([]uint64, n)
	for i := range all {
		seed = seed*6364136223846793005 + 1442695040888963407
		all[i] = seed ^ seed>>29
	}
	return all
}

// eachRow calls for all rows of at most n events of some topics, one a tick.
func eachRow(topics []uint8, n int, call func(l []api.Logged)) {
	rows := [][]uint8{nil}
	for len(rows) > 0 {
		ahead := rows[0]
		rows = rows[1:]
		call(row(ahead...))
		for _, topic := range topics {
			if len(ahead) < n {
				rows = append(rows, append(slices.Clone(ahead), topic))
			}
		}
	}
}

// splits are all rows of at least two numbers, each at least 1, that are n together.
func splits(n int) [][]int {
	var all [][]int
	for ahead := 1; ahead < n; ahead++ {
		all = append(all, []int{ahead, n - ahead})
		for _, rest := range splits(n - ahead) {
			all = append(all, append([]int{ahead}, rest...))
		}
	}
	return all
}

// forests are all ways to have shapes of so many nodes each, one behind the other.
func forests(sizes []int) [][]nodes {
	all := [][]nodes{nil}
	for _, n := range sizes {
		var longer [][]nodes
		for _, ahead := range all {
			for _, shape := range shapes(n) {
				longer = append(longer, append(slices.Clone(ahead), shape))
			}
		}
		all = longer
	}
	return all
}

// shapes are all nodes' patterns of n nodes, of each kind that may stand there, with a guard and without one; what they ask is left open.
func shapes(n int) []nodes {
	if n == 1 {
		return []nodes{each()}
	}
	var all []nodes
	for _, part := range shapes(n - 1) {
		all = append(all, rep(1, 2, part), guarded(ofAny(), rep(2, 3, part)), rep(2, 2, part))
	}
	for _, sizes := range splits(n - 1) {
		for _, parts := range forests(sizes) {
			all = append(all, seq(parts...), guarded(ofAny(), seq(parts...)), alt(parts...))
		}
	}
	return all
}

// asking is a shape whose questions are some of those handed in, by noise.
func asking(l nodes, seed uint64, questions []api.Pred) nodes {
	l = slices.Clone(l)
	c := noise(seed, len(l))
	for i := range l {
		question := questions[c[i]>>8%uint64(len(questions))]
		if l[i].Kind == api.One {
			l[i].Pred = question
		}
		if l[i].Guarded {
			l[i].Guard = question
		}
	}
	return l
}

// telling is a shape each of whose questions is another one: of the number of its node.
func telling(l nodes) nodes {
	l = slices.Clone(l)
	for i := range l {
		question := asked(uint8(1 + i))
		if l[i].Kind == api.One {
			l[i].Pred = question
		}
		if l[i].Guarded {
			l[i].Guard = question
		}
	}
	return l
}

// grown is a node's pattern by noise, of some n nodes; what they ask is left open.
func grown(seed uint64, n int) nodes {
	c := noise(seed, 3)
	if n <= 1 {
		return each()
	}
	var l nodes
	if n == 2 || c[1]%4 == 0 {
		lo := uint8(1 + c[2]>>4%3)
		l = rep(lo, lo+uint8(c[2]>>8%3), grown(c[0], n-1))
	} else {
		ahead := 1 + int(c[2]%uint64(n-2))
		l = node(api.Seq+uint8(c[2]>>16%2), grown(c[0], ahead), grown(c[1], n-1-ahead))
	}
	if c[2]>>24%2 == 0 && l[0].Kind != api.Alt {
		l = guarded(ofAny(), l)
	}
	return l
}

// grownPatterns are patterns by noise that may be, of up to 24 nodes, that ask for what the events of grown rows tell.
func grownPatterns(n int) []api.Pattern {
	var all []api.Pattern
	for seed := range uint64(n) {
		p := within(1+seed%17, asking(grown(seed, int(2+seed%23)), seed, questions()))
		if tree.May(p) == api.OK {
			all = append(all, p)
		}
	}
	return all
}

// grownRow is a row of n events by noise, whose times go on by at most 2, and whose fields tell numbers and texts.
func grownRow(seed uint64, n int) []api.Logged {
	var all []api.Logged
	time := seed % 1000
	for _, c := range noise(seed, n) {
		e := event(time, uint8(1+c>>8%3))
		for k := range c >> 16 % 3 {
			e.Event.Fields = append(e.Event.Fields, []api.Value{{}, whole(int64(c >> 20 % 10)), text("ab"[c>>24%3:])}[(k+c>>28)%3])
		}
		all = append(all, e)
		time += c >> 32 % 3
	}
	return all
}

// questions are questions of which some hold of events of the topics 1 to 3.
func questions() []api.Pred {
	return []api.Pred{
		asked(1), asked(2), asked(3), asked(1), asked(2), ofAny(), asked(1, has(0)), asked(2, above(0, 4)),
		ofAny(has(1)), ofAny(begins(0, "a")),
	}
}

// toldPred is a question as a message tells it.
func toldPred(p api.Pred) string {
	s := fmt.Sprint(p.Topic)
	if p.Any {
		s = "any"
	}
	if len(p.Tests) > 0 {
		s += fmt.Sprint(p.Tests)
	}
	return s
}

// told is a pattern as a message tells it.
func told(p api.Pattern) string {
	s := fmt.Sprintf("window %d of", p.Window)
	for _, n := range p.Nodes {
		s += fmt.Sprintf(" (%d of %d", n.Kind, n.Size)
		if n.Kind == api.One {
			s += " asks " + toldPred(n.Pred)
		}
		if n.Hi > 0 {
			s += fmt.Sprintf(" %d to %d times", n.Lo, n.Hi)
		}
		if n.Guarded {
			s += " guarded by " + toldPred(n.Guard)
		}
		s += ")"
	}
	return s
}

// toldAuto is an automaton as a message tells it.
func toldAuto(a api.Auto) string {
	s := fmt.Sprintf("first %b, last %b, asks", a.First, a.Last)
	for _, p := range a.Preds {
		s += " " + toldPred(p)
	}
	s += fmt.Sprintf("; %d edges:", len(a.Edges))
	for _, e := range a.Edges {
		s += fmt.Sprintf(" %d-%d", e.From, e.To)
		if e.Guarded {
			s += "!" + toldPred(e.Guard)
		}
	}
	return s
}

// toldRow is a row of events as a message tells it.
func toldRow(l []api.Logged) string {
	s := fmt.Sprintf("%d events:", len(l))
	for _, e := range l[:min(len(l), 40)] {
		s += fmt.Sprintf(" %d%v at %d", e.Event.Topic, e.Event.Fields, e.At)
	}
	return s
}

// sameAuto tells whether two automata are the same, field by field.
func sameAuto(a, b api.Auto) bool {
	return a.First == b.First && a.Last == b.Last && slices.EqualFunc(a.Preds, b.Preds, pred.Same) &&
		slices.EqualFunc(a.Edges, b.Edges, func(c, d api.Edge) bool {
			return c.From == d.From && c.To == d.To && c.Guarded == d.Guarded && pred.Same(c.Guard, d.Guard)
		})
}

// step is a step from a node to one of its parts, or copies: the one of this number (from 1 on), of so many.
type step struct {
	node       api.Node
	number, of int
}

// first tells whether what is first in the part is so in the node.
func (s step) first() bool { return s.node.Kind == api.Alt || s.number == 1 }

// last tells whether what is last in the part is so in the node.
func (s step) last() bool {
	switch s.node.Kind {
	case api.Seq:
		return s.number == s.of
	case api.Rep:
		return s.number >= int(s.node.Lo)
	}
	return true
}

// plainPlace is a place: its question, and all steps from the first node to it.
type plainPlace struct {
	asked api.Pred
	steps []step
}

// plainPlaces are the places of a node's pattern that is reached by some steps.
func plainPlaces(l nodes, steps []step) []plainPlace {
	if l[0].Kind == api.One {
		return []plainPlace{{l[0].Pred, steps}}
	}
	var parts []nodes
	for k := 1; k < len(l); k += 1 + l[k].Size {
		parts = append(parts, l[k:k+1+l[k].Size])
	}
	for l[0].Kind == api.Rep && len(parts) < int(l[0].Hi) {
		parts = append(parts, parts[0])
	}
	var all []plainPlace
	for k, part := range parts {
		all = append(all, plainPlaces(part, append(slices.Clone(steps), step{l[0], k + 1, len(parts)}))...)
	}
	return all
}

// fork is the node at which the steps to a place leave those to a later one: what the node is, whether the first place stands last in its part and the second one first in the next part.
func fork(a, b plainPlace) (n api.Node, joined bool) {
	k := 0
	for a.steps[k].number == b.steps[k].number {
		k++
	}
	n = a.steps[k].node
	joined = n.Kind != api.Alt && b.steps[k].number == a.steps[k].number+1
	for _, s := range a.steps[k+1:] {
		joined = joined && s.last()
	}
	for _, s := range b.steps[k+1:] {
		joined = joined && s.first()
	}
	return n, joined
}

// plainAuto is the chapter's automaton of a pattern that may be, however many edges it has: asked of one place, or two, at a time.
func plainAuto(p api.Pattern) api.Auto {
	all := plainPlaces(p.Nodes, nil)
	var a api.Auto
	for i, place := range all {
		a.Preds = append(a.Preds, place.asked)
		if !slices.ContainsFunc(place.steps, func(s step) bool { return !s.first() }) {
			a.First += 1 << i
		}
		if !slices.ContainsFunc(place.steps, func(s step) bool { return !s.last() }) {
			a.Last += 1 << i
		}
		for j := i + 1; j < len(all); j++ {
			if n, joined := fork(place, all[j]); joined {
				a.Edges = append(a.Edges, api.Edge{From: uint8(i), To: uint8(j), Guarded: n.Guarded, Guard: n.Guard})
			}
		}
	}
	return a
}

// copiedPattern is a pattern in memory that no other one has.
func copiedPattern(p api.Pattern) api.Pattern {
	c := api.Pattern{Nodes: append(nodes{}, p.Nodes...), Window: p.Window}
	for i := range c.Nodes {
		c.Nodes[i].Pred.Tests = append([]api.Test{}, p.Nodes[i].Pred.Tests...)
		c.Nodes[i].Guard.Tests = append([]api.Test{}, p.Nodes[i].Guard.Tests...)
	}
	return c
}

// copiedAuto is an automaton in memory that no other one has.
func copiedAuto(a api.Auto) api.Auto {
	c := api.Auto{Preds: append([]api.Pred{}, a.Preds...), First: a.First, Last: a.Last, Edges: append([]api.Edge{}, a.Edges...)}
	for i := range c.Preds {
		c.Preds[i].Tests = append([]api.Test{}, a.Preds[i].Tests...)
	}
	for i := range c.Edges {
		c.Edges[i].Guard.Tests = append([]api.Test{}, a.Edges[i].Guard.Tests...)
	}
	return c
}
