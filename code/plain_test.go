package code_test

import (
	"bytes"
	"encoding/binary"
	"fmt"
	"math"
	"slices"

	"equerry/api"
	"equerry/pred"
)

const (
	mostNodes  = 32
	mostTimes  = 8
	mostLevels = 8
	mostPlaces = 32
	mostWindow = 1048576
	theNaN     = 0x7ff8000000000000
)

// row is nodes, one behind the other.
type row = []api.Node

// question is a question, and its writing.
type question struct {
	pred  api.Pred
	bytes []byte
}

// drawn is the pattern of a node, with the first node's own bytes, and those of its parts.
type drawn struct {
	nodes      row
	own, parts []byte
}

// bytes are a node's pattern's writing.
func (d drawn) bytes() []byte { return joined(d.own, d.parts) }

// joined is its parts, one behind the other, in memory of its own.
func joined(parts ...[]byte) []byte { return bytes.Join(parts, nil) }

func test(field, op uint8, v api.Value) api.Test { return api.Test{Field: field, Op: op, Value: v} }

func has(field uint8) api.Test { return test(field, api.Has, api.Value{}) }

func whole(n int64) api.Value { return api.Value{Kind: api.Whole, Int: n} }

func text(s string) api.Value { return api.Value{Kind: api.Text, Text: s} }

func number(x float64) api.Value { return api.Value{Kind: api.Real, Real: x} }

// asked is a question of a topic alone.
func asked(topic uint8) question { return question{api.Pred{Topic: topic}, []byte{0, topic}} }

// questions are questions that may be, with one, two and more bytes.
func questions() []question {
	return []question{
		asked(0), asked(1), asked(255), {api.Pred{Any: true}, []byte{1}},
		{api.Pred{Tests: []api.Test{has(0)}}, []byte{16, 0, 0, 7, 0}},
		{api.Pred{Topic: 3, Tests: []api.Test{has(255), has(1), has(2), has(3)}}, []byte{64, 3, 255, 7, 0, 1, 7, 0, 2, 7, 0, 3, 7, 0}},
		{api.Pred{Topic: 9, Tests: []api.Test{test(1, api.Gt, whole(-5))}}, []byte{16, 9, 1, 5, 1, 9}},
		{api.Pred{Any: true, Tests: []api.Test{test(2, api.Begins, text("ab")), test(0, api.Eq, whole(150))}}, []byte{33, 2, 8, 3, 2, 'a', 'b', 0, 1, 1, 0xac, 2}},
		{api.Pred{Topic: 2, Tests: []api.Test{test(0, api.Ne, number(math.Float64frombits(theNaN))), test(0, api.Le, number(math.Copysign(0, -1)))}}, []byte{32, 2, 0, 2, 2, 0x7f, 0xf8, 0, 0, 0, 0, 0, 0, 0, 4, 2, 0x80, 0, 0, 0, 0, 0, 0, 0}},
	}
}

// wrongQuestions are questions that may not be.
func wrongQuestions() []api.Pred {
	return []api.Pred{
		{Any: true, Topic: 1}, {Any: true, Topic: 255, Tests: []api.Test{has(0)}}, {Tests: make([]api.Test, 1)},
		{Topic: 1, Tests: []api.Test{has(0), has(1), has(2), has(3), has(4)}}, {Topic: 1, Tests: make([]api.Test, 300)},
		{Tests: []api.Test{test(0, 9, api.Value{})}}, {Tests: []api.Test{test(0, api.Has, whole(1))}}, {Tests: []api.Test{has(0), test(1, api.Eq, api.Value{Kind: 4})}},
	}
}

// refused is the writing of no question, and its error.
type refused struct {
	bytes []byte
	errno api.Errno
}

// refusedQuestions have each error of a question, told behind none, one and more bytes of it. What is cut off isn't among them.
func refusedQuestions() []refused {
	full := bytes.Repeat([]byte{0xff}, 9)
	return []refused{
		{[]byte{2}, api.ErrForm}, {[]byte{4}, api.ErrForm}, {[]byte{8}, api.ErrForm}, {[]byte{14, 1}, api.ErrForm}, {[]byte{255}, api.ErrForm}, {[]byte{0x52, 7}, api.ErrForm},
		{[]byte{0x50}, api.ErrMany}, {[]byte{0x51}, api.ErrMany}, {[]byte{0xf0, 7}, api.ErrMany}, {[]byte{0xf1}, api.ErrMany},
		{[]byte{0x11, 0, 1, 4}, api.ErrKind}, {[]byte{0x10, 7, 0, 1, 255}, api.ErrKind}, {[]byte{0x21, 0, 7, 0, 0, 7, 4}, api.ErrKind},
		{[]byte{0x11, 0, 1, 3, 0x80, 2}, api.ErrLong}, {joined([]byte{0x10, 7, 0, 1, 1}, full, []byte{2}), api.ErrLong},
		{[]byte{0x11, 0, 1, 1, 0x80, 0}, api.ErrForm}, {[]byte{0x11, 0, 1, 2, 0x7f, 0xf8, 0, 0, 0, 0, 0, 1}, api.ErrForm},
		{[]byte{0x11, 0, 0, 0}, api.ErrArg}, {[]byte{0x11, 0, 9, 0}, api.ErrArg}, {[]byte{0x10, 7, 0, 7, 1, 1}, api.ErrArg}, {[]byte{0x11, 0, 1, 0}, api.ErrArg}, {[]byte{0x20, 7, 0, 8, 1, 2, 0, 7, 0}, api.ErrArg},
	}
}

// asks is a One of a question.
func asks(q question) drawn {
	return drawn{nodes: row{{Kind: api.One, Pred: q.pred}}, own: joined([]byte{1}, q.bytes)}
}

// one is a One of a topic.
func one(topic uint8) drawn { return asks(asked(topic)) }

// ones are n Ones, of a topic each.
func ones(n int) []drawn {
	all := make([]drawn, n)
	for i := range all {
		all[i] = one(uint8(i))
	}
	return all
}

// node is a node of a kind, with what its kind names as bytes, and its parts.
func node(kind uint8, named []byte, parts ...drawn) drawn {
	d := drawn{nodes: row{{Kind: kind}}, own: joined([]byte{kind}, named)}
	for _, part := range parts {
		d.nodes = slices.Concat(d.nodes, part.nodes)
		d.parts = joined(d.parts, part.bytes())
	}
	d.nodes[0].Size = len(d.nodes) - 1
	return d
}

func seq(parts ...drawn) drawn { return node(api.Seq, []byte{byte(len(parts))}, parts...) }

func alt(parts ...drawn) drawn { return node(api.Alt, []byte{byte(len(parts))}, parts...) }

func rep(lo, hi uint8, part drawn) drawn {
	d := node(api.Rep, []byte{lo, hi}, part)
	d.nodes[0].Lo, d.nodes[0].Hi = lo, hi
	return d
}

// guarded is a pattern whose first node is Guarded.
func guarded(q question, d drawn) drawn {
	d.nodes = slices.Clone(d.nodes)
	d.nodes[0].Guarded, d.nodes[0].Guard = true, q.pred
	d.own = joined([]byte{d.own[0] + 16}, d.own[1:], q.bytes)
	return d
}

// deep is a pattern that stands in so many repetitions.
func deep(n int, d drawn) drawn {
	for range n {
		d = rep(1, 1, d)
	}
	return d
}

// full is a row of so many nodes, all of them Ones but the first one.
func full(nodes int) drawn { return seq(ones(nodes - 1)...) }

// times is a pattern of so many places, two at least.
func times(places int) drawn {
	parts := []drawn{one(7)}
	for left := places - 1; left > 0; left -= mostTimes {
		parts = append(parts, rep(1, uint8(min(left, mostTimes)), one(7)))
	}
	return seq(parts...)
}

// written is a pattern, and its writing.
type written struct {
	p     api.Pattern
	bytes []byte
}

// within is what is drawn, within a window.
func within(window uint64, d drawn) written {
	return written{api.Pattern{Nodes: d.nodes, Window: window}, joined(numbered(window), d.bytes())}
}

// numbered is a number's writing.
func numbered(n uint64) []byte { return binary.AppendUvarint(nil, n) }

// noise is n numbers that look like chance, and are the same each time.
func noise(seed uint64, n int) []uint64 {
	all := make([]uint64, n)
	for i := range all {
		seed = seed*6364136223846793005 + 1442695040888963407
		all[i] = seed ^ seed>>29
	}
	return all
}

// splits are all rows of at least two numbers, each at least 1, that are n together.
func splits(n int) [][]int {
	var all [][]int
	for first := 1; first < n; first++ {
		all = append(all, []int{first, n - first})
		for _, rest := range splits(n - first) {
			all = append(all, append([]int{first}, rest...))
		}
	}
	return all
}

// forests are all ways to have shapes of so many nodes each, one behind the other.
func forests(sizes []int) [][]drawn {
	all := [][]drawn{nil}
	for _, n := range sizes {
		var longer [][]drawn
		for _, ahead := range all {
			for _, shape := range shapes(n) {
				longer = append(longer, append(slices.Clone(ahead), shape))
			}
		}
		all = longer
	}
	return all
}

// shapes are all nodes' patterns of n nodes, of each kind that may stand there, with a guard and without one.
func shapes(n int) []drawn {
	if n == 1 {
		return []drawn{one(7)}
	}
	var all []drawn
	for _, part := range shapes(n - 1) {
		all = append(all, rep(1, 2, part), guarded(asked(9), rep(2, 2, part)))
	}
	for _, sizes := range splits(n - 1) {
		for _, parts := range forests(sizes) {
			all = append(all, seq(parts...), guarded(asked(9), seq(parts...)), alt(parts...))
		}
	}
	return all
}

// grown is a node's pattern by noise, of some n nodes, in which all may be but how much of it there is.
func grown(seed uint64, n int) drawn {
	c, all := noise(seed, 3), questions()
	q := all[c[2]>>24%uint64(len(all))]
	if n <= 1 {
		return asks(all[c[0]%uint64(len(all))])
	}
	if n == 2 || c[1]%4 == 0 {
		d := rep(uint8(1+c[2]%2), uint8(2+c[2]>>8%2), grown(c[0], n-1))
		if c[2]>>16%2 == 0 {
			return d
		}
		return guarded(q, d)
	}
	first := 1 + int(c[2]%uint64(n-2))
	parts := []drawn{grown(c[0], first), grown(c[1], n-1-first)}
	switch c[2] >> 16 % 3 {
	case 0:
		return alt(parts...)
	case 1:
		return seq(parts...)
	}
	return guarded(q, seq(parts...))
}

// windows are windows that may be, of one, two and three bytes.
func windows() []uint64 {
	return []uint64{1, 2, 5, 127, 128, 129, 255, 256, 300, 16383, 16384, 16385, 65536, mostWindow - 1, mostWindow}
}

// patterns are patterns that may be, with their writings: all short ones, longer ones, and such as are at the edges.
func patterns() []written {
	var all []written
	for n := 1; n <= 5; n++ {
		for i, d := range shapes(n) {
			all = append(all, within(windows()[i%len(windows())], d))
		}
	}
	for seed := range uint64(600) {
		w := within(1+seed*1747, grown(seed, int(5+seed%28)))
		if plainPlaces(w.p.Nodes) <= mostPlaces && plainDepth(w.p.Nodes) <= mostLevels && len(w.p.Nodes) <= mostNodes {
			all = append(all, w)
		}
	}
	for _, w := range windows() {
		all = append(all, within(w, one(3)), within(w, full(4)))
	}
	for _, q := range questions() {
		all = append(all, within(5, asks(q)), within(5, guarded(q, seq(asks(q), one(1)))), within(5, guarded(q, rep(1, 8, asks(q)))))
	}
	for _, d := range []drawn{full(31), full(32), alt(ones(31)...), deep(8, one(1)), times(31), times(32), rep(8, 8, one(1)), rep(1, 4, rep(1, 8, one(1))), seq(deep(7, one(1)), deep(7, one(2)))} {
		all = append(all, within(5, d))
	}
	return all
}

// plainOwners is of each node the places of all nodes that it stands in.
func plainOwners(l row) [][]int {
	owners := make([][]int, len(l))
	for i, n := range l {
		for k := i + 1; k <= i+n.Size; k++ {
			owners[k] = append(owners[k], i)
		}
	}
	return owners
}

// plainPlaces is layer 11's, of nodes that are formed: each One has as many as all repetitions that it stands in say.
func plainPlaces(l row) int {
	all := 0
	for i, owners := range plainOwners(l) {
		places := 1
		for _, k := range owners {
			if l[k].Kind == 4 {
				places *= int(l[k].Hi)
			}
		}
		if l[i].Kind == 1 {
			all += places
		}
	}
	return all
}

// plainDepth is layer 11's, of nodes that are formed.
func plainDepth(l row) int {
	deepest := 0
	for i, owners := range plainOwners(l) {
		if l[i].Kind != 1 {
			deepest = max(deepest, len(owners)+1)
		}
	}
	return deepest
}

// plainNumber is layer 3's number at the front of some bytes, and how many bytes it has.
func plainNumber(b []byte) (uint64, int, api.Errno) {
	last := slices.IndexFunc(b, func(c byte) bool { return c < 128 })
	switch {
	case len(b) >= 10 && (last < 0 || last >= 9) && b[9] > 1:
		return 0, 0, 4
	case last < 0:
		return 0, 0, 3
	case last > 0 && b[last] == 0:
		return 0, 0, 2
	}
	n, size := binary.Uvarint(b)
	return n, size, 0
}

// plainQuestion is a question at the front of some bytes, and what is behind it.
func plainQuestion(b []byte) (api.Pred, []byte, api.Errno) {
	p, size, errno := pred.Get(b, 0)
	return p, b[size:], errno
}

// plainNode is the node at the front of some bytes, if it may stand in so many others, how many parts it has, and what is behind it.
func plainNode(b []byte, others int) (n api.Node, parts int, behind []byte, errno api.Errno) {
	if len(b) == 0 {
		return n, 0, nil, 3
	}
	n.Kind, n.Guarded, behind = b[0]%16, b[0] == 18 || b[0] == 20, b[1:]
	if b[0] > 15 && !n.Guarded || n.Kind == 0 || n.Kind > 4 {
		return n, 0, nil, 11
	}
	switch {
	case n.Kind != 1 && others > mostLevels-1:
		return n, 0, nil, 16
	case n.Kind == 1:
		n.Pred, behind, errno = plainQuestion(behind)
	case n.Kind == 4 && len(behind) < 2 || len(behind) < 1:
		return n, 0, nil, 3
	case n.Kind == 4:
		n.Lo, n.Hi, parts, behind = behind[0], behind[1], 1, behind[2:]
		if n.Lo == 0 || n.Hi == 0 || n.Lo > n.Hi || n.Hi > mostTimes {
			return n, 0, nil, 2
		}
	default:
		parts, behind = int(behind[0]), behind[1:]
		if parts == 0 || parts == 1 {
			return n, 0, nil, 2
		}
	}
	if n.Guarded {
		n.Guard, behind, errno = plainQuestion(behind)
	}
	return n, parts, behind, errno
}

// plainGet is the chapter's: node by node, with a list of those of which parts are still to come, and of how many.
func plainGet(b []byte) (api.Pattern, api.Errno) {
	window, size, errno := plainNumber(b)
	if errno != 0 {
		return api.Pattern{}, errno
	}
	l, open, left := row{}, []int{}, []int{}
	for behind := b[size:]; ; {
		var n api.Node
		var parts int
		if len(l) == mostNodes {
			return api.Pattern{}, 12
		}
		n, parts, behind, errno = plainNode(behind, len(open))
		if errno != 0 {
			return api.Pattern{}, errno
		}
		l, open, left = append(l, n), append(open, len(l)), append(left, parts)
		for len(open) > 0 && left[len(left)-1] == 0 { // the last one is whole, and so may be those that it stands in
			last := len(open) - 1
			l[open[last]].Size = len(l) - 1 - open[last]
			open, left = open[:last], left[:last]
			if last > 0 {
				left[last-1]--
			}
		}
		if len(open) > 0 {
			continue
		}
		switch {
		case len(behind) > 0:
			return api.Pattern{}, 2
		case window < 1 || window > mostWindow:
			return api.Pattern{}, 5
		case plainPlaces(l) > mostPlaces:
			return api.Pattern{}, 4
		}
		return api.Pattern{Nodes: l, Window: window}, 0
	}
}

// identicalTest tells whether two are the same to the last bit.
func identicalTest(a, b api.Test) bool {
	return a.Field == b.Field && a.Op == b.Op && a.Value.Kind == b.Value.Kind && a.Value.Int == b.Value.Int &&
		math.Float64bits(a.Value.Real) == math.Float64bits(b.Value.Real) && a.Value.Text == b.Value.Text
}

// identicalPred tells whether two are the same to the last bit.
func identicalPred(a, b api.Pred) bool {
	return a.Any == b.Any && a.Topic == b.Topic && slices.EqualFunc(a.Tests, b.Tests, identicalTest)
}

// identicalNode tells whether two are the same to the last bit.
func identicalNode(a, b api.Node) bool {
	return a.Kind == b.Kind && a.Guarded == b.Guarded && a.Lo == b.Lo && a.Hi == b.Hi && a.Size == b.Size && identicalPred(a.Pred, b.Pred) && identicalPred(a.Guard, b.Guard)
}

// identical tells whether two are the same to the last bit.
func identical(a, b api.Pattern) bool {
	return a.Window == b.Window && slices.EqualFunc(a.Nodes, b.Nodes, identicalNode)
}

// copiedPred is a question in memory that no other one has.
func copiedPred(p api.Pred) api.Pred {
	return api.Pred{Any: p.Any, Topic: p.Topic, Tests: append([]api.Test(nil), p.Tests...)}
}

// copied is a pattern in memory that no other one has.
func copied(p api.Pattern) api.Pattern {
	c := api.Pattern{Window: p.Window}
	for _, n := range p.Nodes {
		n.Pred, n.Guard = copiedPred(n.Pred), copiedPred(n.Guard)
		c.Nodes = append(c.Nodes, n)
	}
	return c
}

// changed is a pattern with another node at a place.
func changed(p api.Pattern, at int, change func(n *api.Node)) api.Pattern {
	p = copied(p)
	change(&p.Nodes[at])
	return p
}

// shortPred is a question as a message tells it.
func shortPred(p api.Pred) string {
	return fmt.Sprintf("any %v, topic %d, %d tests", p.Any, p.Topic, len(p.Tests))
}

// short is a pattern as a message tells it.
func short(p api.Pattern) string {
	s := fmt.Sprintf("window %d of %d:", p.Window, len(p.Nodes))
	for _, n := range p.Nodes[:min(len(p.Nodes), 40)] {
		s += fmt.Sprintf(" (%d of %d, %d to %d times, %s", n.Kind, n.Size, n.Lo, n.Hi, shortPred(n.Pred))
		if n.Guarded {
			s += ", guarded by " + shortPred(n.Guard)
		}
		s += ")"
	}
	return s
}
