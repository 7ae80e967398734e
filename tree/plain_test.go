package tree_test

import (
	"fmt"
	"math"
	"slices"

	"equerry/api"
	"equerry/pred"
)

const (
	mostNodes  = 32
	mostTimes  = 8
	mostLevels = 8
	mostPlaces = 32
	mostWindow = 1048576
)

// row is nodes, one behind the other.
type row = []api.Node

func asked(topic uint8, tests ...api.Test) api.Pred { return api.Pred{Topic: topic, Tests: tests} }

func has(field uint8) api.Test { return api.Test{Field: field, Op: api.Has} }

func whole(n int64) api.Value { return api.Value{Kind: api.Whole, Int: n} }

func text(s string) api.Value { return api.Value{Kind: api.Text, Text: s} }

func number(x float64) api.Value { return api.Value{Kind: api.Real, Real: x} }

// asks is a One of a question.
func asks(p api.Pred) row { return row{{Kind: api.One, Pred: p}} }

// one is a One of a topic.
func one(topic uint8) row { return asks(asked(topic)) }

// node is a node of a kind with parts.
func node(kind uint8, parts ...row) row {
	behind := slices.Concat(parts...)
	return slices.Concat(row{{Kind: kind, Size: len(behind)}}, behind)
}

func seq(parts ...row) row { return node(api.Seq, parts...) }

func alt(parts ...row) row { return node(api.Alt, parts...) }

func rep(lo, hi uint8, parts ...row) row {
	l := node(api.Rep, parts...)
	l[0].Lo, l[0].Hi = lo, hi
	return l
}

// guarded is a row whose first node is Guarded.
func guarded(guard api.Pred, l row) row {
	l = slices.Clone(l)
	l[0].Guarded, l[0].Guard = true, guard
	return l
}

// ones are n Ones, of a topic each.
func ones(n int) []row {
	all := make([]row, n)
	for i := range all {
		all[i] = one(uint8(i))
	}
	return all
}

// of is a pattern of nodes.
func of(l row) api.Pattern { return api.Pattern{Nodes: l, Window: 5} }

// changed is a row with another node at a place.
func changed(l row, at int, change func(n *api.Node)) row {
	l = copied(of(l)).Nodes
	change(&l[at])
	return l
}

// noise is n numbers that look like chance, and are the same each time.
func noise(seed uint64, n int) []uint64 {
	all := make([]uint64, n)
	for i := range all {
		seed = seed*6364136223846793005 + 1442695040888963407
		all[i] = seed ^ seed>>29
	}
	return all
}

// questions are questions that may be, and have something.
func questions() []api.Pred {
	return []api.Pred{
		asked(1), asked(255), {Any: true},
		asked(0, has(0)), asked(3, has(255), has(1), has(2), has(3)),
		asked(9, api.Test{Field: 1, Op: api.Gt, Value: whole(-5)}), {Any: true, Tests: []api.Test{{Field: 2, Op: api.Begins, Value: text("ab")}}},
		asked(2, api.Test{Op: api.Ne, Value: number(math.NaN())}, api.Test{Op: api.Le, Value: number(math.Copysign(0, -1))}),
	}
}

// wrongQuestions are questions that may not be.
func wrongQuestions() []api.Pred {
	return []api.Pred{
		{Any: true, Topic: 1}, {Any: true, Topic: 255, Tests: []api.Test{has(0)}},
		asked(0, make([]api.Test, 1)...), asked(1, has(0), has(1), has(2), has(3), has(4)), asked(1, make([]api.Test, 300)...),
		asked(1, api.Test{Op: 9}), asked(1, api.Test{Op: api.Has, Value: whole(1)}), asked(1, api.Test{Op: api.Eq}), asked(1, has(0), api.Test{Op: api.Begins, Value: whole(1)}),
		asked(1, api.Test{Op: api.Eq, Value: api.Value{Kind: 4}}), asked(1, has(0), has(1), has(2), api.Test{Op: api.Has, Value: api.Value{Int: 1}}),
	}
}

// splits are all rows of at least two numbers, each at least 1, that are n together.
func splits(n int) [][]int {
	var all [][]int
	for first := 1; first < n; first++ {
		all = append(all, []int{first, n - first})
		for _, rest := range splits(n - first) {
			all = append(all, append([]int{first}, rest...))
		}
	}
	return all
}

// forests are all ways to have shapes of so many nodes each, one behind the other.
func forests(sizes []int) [][]row {
	all := [][]row{nil}
	for _, n := range sizes {
		var longer [][]row
		for _, ahead := range all {
			for _, shape := range shapes(n) {
				longer = append(longer, append(slices.Clone(ahead), shape))
			}
		}
		all = longer
	}
	return all
}

// shapes are all nodes' patterns of n nodes, of each kind that may stand there, with a guard and without one.
func shapes(n int) []row {
	if n == 1 {
		return []row{one(7)}
	}
	var all []row
	for _, part := range shapes(n - 1) {
		all = append(all, rep(1, 2, part), guarded(asked(9), rep(2, 2, part)))
	}
	for _, sizes := range splits(n - 1) {
		for _, parts := range forests(sizes) {
			all = append(all, seq(parts...), guarded(asked(9), seq(parts...)), alt(parts...))
		}
	}
	return all
}

// grown is a node's pattern by noise, of some n nodes, in which all may be but how much of it there is.
func grown(seed uint64, n int) row {
	c := noise(seed, 3)
	if n <= 1 {
		return asks(questions()[c[0]%8])
	}
	if n == 2 || c[1]%4 == 0 {
		l := rep(uint8(1+c[2]%2), uint8(2+c[2]>>8%2), grown(c[0], n-1))
		if c[2]>>16%2 == 0 {
			return l
		}
		return guarded(questions()[c[2]>>24%8], l)
	}
	first := 1 + int(c[2]%uint64(n-2))
	parts := []row{grown(c[0], first), grown(c[1], n-1-first)}
	switch c[2] >> 16 % 3 {
	case 0:
		return alt(parts...)
	case 1:
		return seq(parts...)
	}
	return guarded(questions()[c[2]>>24%8], seq(parts...))
}

// patterns are patterns that may be: all short ones, longer ones, and such as are at the edges.
func patterns() []api.Pattern {
	var all []api.Pattern
	for n := 1; n <= 6; n++ {
		for i, l := range shapes(n) {
			all = append(all, api.Pattern{Nodes: l, Window: uint64(1 + i%mostWindow)})
		}
	}
	for seed := range uint64(600) {
		p := api.Pattern{Nodes: grown(seed, int(6+seed%27)), Window: 1 + seed*1747}
		if plainMay(p) == api.OK {
			all = append(all, p)
		}
	}
	for _, q := range questions() {
		all = append(all, of(asks(q)), of(guarded(q, seq(asks(q), one(1)))), of(guarded(q, rep(1, 8, asks(q)))))
	}
	return append(all, of(seq(ones(31)...)), of(alt(ones(31)...)), of(guarded(api.Pred{}, seq(ones(2)...))),
		of(deep(8)), of(rep(1, 4, rep(1, 8, one(1)))), of(rep(8, 8, one(1))), api.Pattern{Nodes: one(1), Window: 1}, api.Pattern{Nodes: one(1), Window: mostWindow})
}

// everyNth is every nth one of some patterns, from the last one on.
func everyNth(all []api.Pattern, n int) []api.Pattern {
	var some []api.Pattern
	for i := len(all) - 1; i >= 0; i -= n {
		some = append(some, all[i])
	}
	return some
}

// deep is a One that stands in so many repetitions.
func deep(n int) row {
	l := one(1)
	for range n {
		l = rep(1, 1, l)
	}
	return l
}

// wrongPatterns are patterns that may not be, for all that may be wrong.
func wrongPatterns() []api.Pattern {
	all := []api.Pattern{{}, {Window: 5}, of(row{{}}), of(make(row, 33)), of(make(row, 1000)), of(seq(ones(32)...)), of(deep(9)), of(rep(1, 5, rep(1, 8, one(1)))), {Nodes: one(1)}, {Nodes: one(1), Window: mostWindow + 1}, {Nodes: one(1), Window: math.MaxUint64}}
	for _, q := range wrongQuestions() {
		all = append(all, of(asks(q)), of(seq(one(1), asks(q))), of(guarded(q, seq(ones(2)...))), of(seq(one(1), guarded(q, rep(1, 2, one(1))))))
	}
	for _, p := range everyNth(patterns(), 5) {
		for at := range p.Nodes {
			all = append(all, of(changed(p.Nodes, at, func(n *api.Node) { n.Kind = 0 })), of(changed(p.Nodes, at, func(n *api.Node) { n.Size = -1 })))
		}
	}
	return all
}

// shortPred is a question as a message tells it.
func shortPred(p api.Pred) string {
	return fmt.Sprintf("any %v, topic %d, %d tests", p.Any, p.Topic, len(p.Tests))
}

// short is a row of nodes as a message tells it.
func short(l row) string {
	s := fmt.Sprintf("%d:", len(l))
	for _, n := range l[:min(len(l), 40)] {
		s += fmt.Sprintf(" (%d of %d", n.Kind, n.Size)
		if n.Lo > 0 || n.Hi > 0 {
			s += fmt.Sprintf(", %d to %d times", n.Lo, n.Hi)
		}
		if !plainNothing(n.Pred) {
			s += ", " + shortPred(n.Pred)
		}
		if n.Guarded || !plainNothing(n.Guard) {
			s += fmt.Sprintf(", guarded %v by %s", n.Guarded, shortPred(n.Guard))
		}
		s += ")"
	}
	return s
}

// shortPattern is a pattern as a message tells it.
func shortPattern(p api.Pattern) string {
	return fmt.Sprintf("window %d of %s", p.Window, short(p.Nodes))
}

// identicalTest tells whether two are the same to the last bit.
func identicalTest(a, b api.Test) bool {
	return a.Field == b.Field && a.Op == b.Op && a.Value.Kind == b.Value.Kind && a.Value.Int == b.Value.Int &&
		math.Float64bits(a.Value.Real) == math.Float64bits(b.Value.Real) && a.Value.Text == b.Value.Text
}

// identicalPred tells whether two are the same to the last bit.
func identicalPred(a, b api.Pred) bool {
	return a.Any == b.Any && a.Topic == b.Topic && slices.EqualFunc(a.Tests, b.Tests, identicalTest)
}

// identicalNode tells whether two are the same to the last bit.
func identicalNode(a, b api.Node) bool {
	return a.Kind == b.Kind && a.Guarded == b.Guarded && a.Lo == b.Lo && a.Hi == b.Hi && a.Size == b.Size && identicalPred(a.Pred, b.Pred) && identicalPred(a.Guard, b.Guard)
}

// identicalNodes tells whether two rows are the same to the last bit.
func identicalNodes(a, b row) bool { return slices.EqualFunc(a, b, identicalNode) }

// identical tells whether two are the same to the last bit.
func identical(a, b api.Pattern) bool {
	return a.Window == b.Window && identicalNodes(a.Nodes, b.Nodes)
}

// copiedPred is a question in memory that no other one has.
func copiedPred(p api.Pred) api.Pred {
	return api.Pred{Any: p.Any, Topic: p.Topic, Tests: append([]api.Test(nil), p.Tests...)}
}

// copied is a pattern in memory that no other one has.
func copied(p api.Pattern) api.Pattern {
	c := api.Pattern{Window: p.Window}
	for _, n := range p.Nodes {
		n.Pred, n.Guard = copiedPred(n.Pred), copiedPred(n.Guard)
		c.Nodes = append(c.Nodes, n)
	}
	return c
}

// plainNothing tells whether a question has nothing.
func plainNothing(p api.Pred) bool { return !p.Any && p.Topic == 0 && len(p.Tests) == 0 }

// plainOwners is of each node the place of the one whose part it is (of the first one -1), if they all stand in each other as their Sizes say.
func plainOwners(l row) ([]int, bool) {
	owners, lasts := make([]int, len(l)), make([]int, len(l))
	for k, n := range l {
		if n.Size < 0 || n.Size >= len(l) {
			return nil, false
		}
		owners[k], lasts[k] = -1, k+n.Size
		for i := range k {
			if k <= lasts[i] {
				owners[k] = i
			}
		}
		if k > 0 && (owners[k] < 0 || lasts[k] > lasts[owners[k]]) {
			return nil, false
		}
	}
	return owners, len(l) > 0 && lasts[0] == len(l)-1
}

// plainNamed is a node with nothing but what its kind names.
func plainNamed(n api.Node) api.Node {
	named := api.Node{Kind: n.Kind, Size: n.Size}
	switch n.Kind {
	case 1:
		named.Pred = n.Pred
	case 4:
		named.Lo, named.Hi = n.Lo, n.Hi
	}
	if n.Guarded && n.Kind%2 == 0 {
		named.Guarded, named.Guard = true, n.Guard
	}
	return named
}

// plainForm tells whether each node's Size, Kind, Lo, Hi, number of parts, and fields that must be zero are as said.
func plainForm(l row) bool {
	owners, stand := plainOwners(l)
	if !stand {
		return false
	}
	for i, n := range l {
		parts := 0
		for _, owner := range owners {
			if owner == i {
				parts++
			}
		}
		many := map[uint8]bool{1: parts == 0, 2: parts > 1, 3: parts > 1, 4: parts == 1}
		if !many[n.Kind] || !identicalNode(n, plainNamed(n)) {
			return false
		}
		if n.Kind == 4 && (n.Lo == 0 || n.Hi < n.Lo || n.Hi > mostTimes) {
			return false
		}
	}
	return true
}

// plainDepth is the chapter's, of nodes that stand in each other: the most nodes with parts that one stands in, and itself.
func plainDepth(l row) int {
	owners, _ := plainOwners(l)
	deepest := 0
	for i := range l {
		levels := 0
		for k := i; k >= 0; k = owners[k] {
			if l[k].Size > 0 {
				levels++
			}
		}
		deepest = max(deepest, levels)
	}
	return deepest
}

// plainPlaces is the chapter's, of nodes that are formed: each One has as many as all repetitions that it stands in say.
func plainPlaces(l row) int {
	owners, _ := plainOwners(l)
	all := 0
	for i, n := range l {
		if n.Kind != 1 {
			continue
		}
		times := 1
		for k := owners[i]; k >= 0; k = owners[k] {
			if l[k].Kind == 4 {
				times *= int(l[k].Hi)
			}
		}
		all += times
	}
	return all
}

// plainQuestions tells whether all questions may be.
func plainQuestions(l row) bool {
	for _, n := range l {
		if n.Kind == 1 && !pred.May(n.Pred) || n.Guarded && !pred.May(n.Guard) {
			return false
		}
	}
	return true
}

// plainMay is the chapter's.
func plainMay(p api.Pattern) api.Errno {
	l := p.Nodes
	switch {
	case len(l) > mostNodes:
		return 12
	case !plainForm(l):
		return 2
	case !plainQuestions(l):
		return 1
	case plainDepth(l) > mostLevels:
		return 16
	case p.Window == 0 || p.Window > mostWindow:
		return 5
	case plainPlaces(l) > mostPlaces:
		return 4
	}
	return 0
}

// plainParts is the chapter's: where each part begins, and where it ends.
func plainParts(l row) [][2]int {
	if len(l) == 0 || l[0].Size < 0 || l[0].Size > len(l)-1 {
		return nil
	}
	var all [][2]int
	left, at := l[0].Size, 1
	for left > 0 {
		n := l[at].Size
		if n < 0 || n > left-1 {
			return nil
		}
		all = append(all, [2]int{at, at + 1 + n})
		left, at = left-1-n, at+1+n
	}
	return all
}

// plainSame is the chapter's.
func plainSame(a, b api.Pattern) bool {
	if len(a.Nodes) != len(b.Nodes) || a.Window != b.Window {
		return false
	}
	for i, n := range a.Nodes {
		m := b.Nodes[i]
		if !pred.Same(n.Pred, m.Pred) || !pred.Same(n.Guard, m.Guard) {
			return false
		}
		n.Pred, n.Guard, m.Pred, m.Guard = api.Pred{}, api.Pred{}, api.Pred{}, api.Pred{}
		if !identicalNode(n, m) {
			return false
		}
	}
	return true
}
