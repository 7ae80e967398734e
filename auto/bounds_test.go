package auto_test

import (
	"math"
	"slices"
	"testing"

	"equerry/api"
	"equerry/auto"
	"equerry/tree"
)

// P14.1: bounds

// eitherOf is an Alt of n Ones.
func eitherOf(n int) nodes { return alt(times(n, one(1))...) }

// wide is a Seq of two Alts, of so many Ones each.
func wide(a, b int) nodes { return seq(eitherOf(a), eitherOf(b)) }

func TestBoundOfEdges(t *testing.T) {
	triples := rep(8, 8, eitherOf(3)) // 63 edges
	for _, c := range []struct {
		l     nodes
		edges int
	}{
		{wide(7, 9), 63}, {triples, 63}, {rep(1, 8, eitherOf(3)), 63},
		{wide(8, 8), 64}, {wide(4, 16), 64}, {wide(16, 4), 64}, {rep(1, 2, eitherOf(8)), 64}, {rep(2, 2, eitherOf(8)), 64},
		{rep(1, 5, eitherOf(4)), 64}, {alt(triples, seq(one(1), one(2))), 64}, {alt(seq(one(1), one(2)), triples), 64},
		{seq(one(1), rep(3, 8, rep(1, 2, one(2))), one(3), one(4)), 36},
		{wide(5, 13), 65}, {wide(13, 5), 65}, {alt(wide(8, 8), seq(one(1), one(2))), 65}, {alt(seq(one(1), one(2)), wide(8, 8)), 65},
		{alt(triples, seq(one(1), one(2), one(3))), 65}, {alt(rep(1, 2, one(1)), rep(2, 2, one(1)), triples), 65},
		{seq(triples, one(1)), 66}, {seq(wide(8, 7), one(1), one(2), one(3)), 65}, {seq(one(1), triples), 66},
		{wide(6, 11), 66}, {wide(14, 14), 196}, {rep(1, 2, eitherOf(16)), 256}, {rep(1, 8, eitherOf(4)), 112},
	} {
		for _, l := range []nodes{c.l, guardedAll(c.l, asked(9)), guardedAll(c.l, ofAny())} {
			p := of(l)
			if errno := tree.May(p); errno != api.OK || len(plainAuto(p).Edges) != c.edges {
				t.Errorf("%s may be: %v, has %d edges, not %d", told(p), errno, len(plainAuto(p).Edges), c.edges)
			}
			if asSaid(t, p) != (c.edges <= mostEdges) {
				t.Errorf("%s with %d edges", told(p), c.edges)
			}
		}
	}
}

// guardedAll are nodes of which each Seq and each Rep is Guarded.
func guardedAll(l nodes, guard api.Pred) nodes {
	l = slices.Clone(l)
	for i, n := range l {
		if n.Kind == api.Seq || n.Kind == api.Rep {
			l[i].Guarded, l[i].Guard = true, guard
		}
	}
	return l
}

// All Seqs of two Alts, and all Reps of one, at both sides of the bound.
func TestBoundOfEdgesEverywhere(t *testing.T) {
	for a := 2; a <= 16; a++ {
		for b := 2; b <= 16; b++ {
			if p := of(wide(a, b)); tree.May(p) == api.OK && asSaid(t, p) != (a*b <= mostEdges) {
				t.Errorf("%d and %d", a, b)
			}
		}
		for hi := 1; hi <= 8; hi++ {
			if p := of(rep(1, uint8(hi), eitherOf(a))); tree.May(p) == api.OK && asSaid(t, p) != ((hi-1)*a*a <= mostEdges) {
				t.Errorf("%d, %d times", a, hi)
			}
		}
	}
}

func TestBoundOfPlaces(t *testing.T) {
	byEight := rep(1, 8, one(1))
	eight := rep(8, 8, one(1))
	var rowOf32 [][]api.Edge
	for place := uint8(0); place < 31; place++ {
		rowOf32 = append(rowOf32, to(place, place+1))
	}
	topics := slices.Repeat(topicsOf(1), 32)
	wantKnown(t, []known{
		{alt(byEight, byEight, byEight, byEight), topics, 0x01010101, 0xffffffff, slices.Concat(rowOf32[:7], rowOf32[8:15], rowOf32[16:23], rowOf32[24:])},
		{alt(eight, eight, eight, eight), topics, 0x01010101, 0x80808080, slices.Concat(rowOf32[:7], rowOf32[8:15], rowOf32[16:23], rowOf32[24:])},
		{alt(eight, eight, eight, rep(7, 7, one(1)), one(1)), topics, 0x81010101, 0xc0808080, slices.Concat(rowOf32[:7], rowOf32[8:15], rowOf32[16:23], rowOf32[24:30])},
		{rep(8, 8, seq(times(4, one(1))...)), topics, 1, 1 << 31, rowOf32},
		{rep(1, 8, seq(times(4, one(1))...)), topics, 1, 0x88888888, rowOf32},
		{rep(4, 4, rep(8, 8, one(1))), topics, 1, 1 << 31, rowOf32},
		{seq(eight, eight, eight, eight), topics, 1, 1 << 31, rowOf32},
		{seq(eight, eight, seq(eight, seq(rep(7, 7, one(1)), one(1)))), topics, 1, 1 << 31, rowOf32},
		{seq(times(31, one(1))...), topics[:31], 1, 1 << 30, rowOf32[:30]},
		{eitherOf(31), topics[:31], math.MaxInt32, math.MaxInt32, nil},
		{alt(rep(1, 8, rep(1, 2, one(1))), rep(8, 8, rep(2, 2, one(1)))), topics, 0x00010001, 0x8000ffff, edgesOfPairs()},
	})
}

// edgesOfPairs are the edges of eight copies of a One from 1 to 2 times, and behind them those of eight copies of two Ones.
func edgesOfPairs() [][]api.Edge {
	var all [][]api.Edge
	for place := uint8(0); place < 14; place += 2 {
		all = append(all, to(place, place+1, place+2), to(place+1, place+2))
	}
	all = append(all, to(14, 15))
	for place := uint8(16); place < 31; place++ {
		all = append(all, to(place, place+1))
	}
	return all
}

func TestWindowsAtTheirEdges(t *testing.T) {
	l := seq(one(1), one(2))
	want := compiled(t, of(l))
	for _, window := range []uint64{1, 2, 1 << 10, mostWindow - 1, mostWindow} {
		wantAuto(t, within(window, l), want)
	}
	for _, window := range []uint64{0, mostWindow + 1, 1 << 32, 1<<32 + 1, 1 << 63, math.MaxUint64} {
		wantNone(t, within(window, l), api.ErrRange)
		wantNone(t, within(window, one(1)), api.ErrRange)
		wantNone(t, within(window, wide(8, 9)), api.ErrRange)
	}
}

// P14.1: errors

// deep is a part in n Reps of one time.
func deep(n int, part nodes) nodes {
	for range n {
		part = rep(1, 1, part)
	}
	return part
}

// manifold is a One in n Reps of eight times.
func manifold(n int) nodes {
	part := one(1)
	for range n {
		part = rep(8, 8, part)
	}
	return part
}

// withFirst are nodes whose first one is changed.
func withFirst(l nodes, change func(n *api.Node)) nodes {
	l = slices.Clone(l)
	change(&l[0])
	return l
}

// refusal is a pattern that may not be, and May's error of it.
type refusal struct {
	p    api.Pattern
	want api.Errno
}

// refusals are some for each of May's errors, among them ones that have too many edges as well.
func refusals() []refusal {
	wrong := ofAny()
	wrong.Topic = 1
	manyTests := asked(1, slices.Repeat([]api.Test{has(0)}, 5)...)
	pair := seq(one(1), one(2))
	return []refusal{
		{of(seq(times(32, one(1))...)), api.ErrMany},
		{of(wide(15, 15)), api.ErrMany},
		{within(0, wide(15, 16)), api.ErrMany},
		{of(make(nodes, 33)), api.ErrMany},
		{of(make(nodes, 5000)), api.ErrMany},
		{api.Pattern{}, api.ErrForm},
		{of(nil), api.ErrForm},
		{of(nodes{}), api.ErrForm},
		{of(make(nodes, 32)), api.ErrForm},
		{of(nodes{{}}), api.ErrForm},
		{of(nodes{{Kind: 5}}), api.ErrForm},
		{of(nodes{{Kind: 255, Size: 1}, {Kind: api.One}}), api.ErrForm},
		{of(seq(one(1))), api.ErrForm},
		{of(alt(one(1))), api.ErrForm},
		{of(alt()), api.ErrForm},
		{of(nodes{{Kind: api.Rep, Lo: 1, Hi: 1}}), api.ErrForm},
		{of(rep(0, 1, one(1))), api.ErrForm},
		{of(rep(2, 1, one(1))), api.ErrForm},
		{of(rep(1, 9, one(1))), api.ErrForm},
		{of(rep(255, 255, one(1))), api.ErrForm},
		{of(slices.Concat(one(1), one(1))), api.ErrForm},
		{of(slices.Concat(pair, one(1))), api.ErrForm},
		{of(not(9, one(1))), api.ErrForm},
		{of(not(9, alt(one(1), one(2)))), api.ErrForm},
		{of(withFirst(pair, func(n *api.Node) { n.Guard = asked(9) })), api.ErrForm},
		{of(withFirst(pair, func(n *api.Node) { n.Pred = asked(9) })), api.ErrForm},
		{of(withFirst(pair, func(n *api.Node) { n.Size = 1 })), api.ErrForm},
		{of(withFirst(pair, func(n *api.Node) { n.Size = 3 })), api.ErrForm},
		{of(withFirst(pair, func(n *api.Node) { n.Size = -1 })), api.ErrForm},
		{of(withFirst(pair, func(n *api.Node) { n.Size = math.MaxInt })), api.ErrForm},
		{of(withFirst(pair, func(n *api.Node) { n.Size = math.MinInt })), api.ErrForm},
		{of(withFirst(one(1), func(n *api.Node) { n.Lo = 1 })), api.ErrForm},
		{of(withFirst(wide(8, 9), func(n *api.Node) { n.Hi = 1 })), api.ErrForm},
		{within(0, withFirst(wide(8, 9), func(n *api.Node) { n.Kind = 0 })), api.ErrForm},
		{of(seq(wide(8, 9), asks(wrong), nodes{{Kind: 9}})), api.ErrForm},
		{of(asks(wrong)), api.ErrArg},
		{of(asks(manyTests)), api.ErrArg},
		{of(guarded(wrong, pair)), api.ErrArg},
		{of(guarded(manyTests, rep(1, 1, one(1)))), api.ErrArg},
		{of(seq(wide(8, 9), asks(wrong))), api.ErrArg},
		{of(guarded(wrong, wide(8, 9))), api.ErrArg},
		{within(0, deep(9, asks(wrong))), api.ErrArg},
		{of(deep(9, one(1))), api.ErrDeep},
		{of(deep(31, one(1))), api.ErrDeep},
		{of(deep(7, wide(8, 9))), api.ErrDeep},
		{within(0, deep(9, one(1))), api.ErrDeep},
		{within(0, one(1)), api.ErrRange},
		{within(mostWindow+1, pair), api.ErrRange},
		{within(math.MaxUint64, wide(14, 14)), api.ErrRange},
		{within(0, rep(5, 5, rep(1, 8, one(1)))), api.ErrRange},
		{of(rep(3, 3, seq(times(11, one(1))...))), api.ErrLong},
		{of(rep(5, 5, rep(1, 8, one(1)))), api.ErrLong},
		{of(manifold(9)), api.ErrDeep},
		{of(manifold(8)), api.ErrLong},
		{within(0, manifold(8)), api.ErrRange},
		{of(rep(1, 2, eitherOf(17))), api.ErrLong},
		{of(rep(1, 8, wide(4, 4))), api.ErrLong},
	}
}

func TestPatternsThatMayNotBe(t *testing.T) {
	for _, c := range refusals() {
		if got := tree.May(c.p); got != c.want {
			t.Errorf("%s: May = %v, want %v", told(c.p), got, c.want)
		}
		wantNone(t, c.p, c.want)
	}
}

// What may be but for its edges is refused for these alone.
func TestTooManyEdgesAlone(t *testing.T) {
	for _, l := range []nodes{wide(8, 9), rep(1, 2, eitherOf(9)), seq(rep(1, 8, rep(1, 2, one(1))), eitherOf(4)), deep(6, wide(8, 9))} {
		for _, window := range []uint64{1, mostWindow} {
			p := within(window, l)
			if errno := tree.May(p); errno != api.OK {
				t.Errorf("%s: May = %v", told(p), errno)
			}
			wantNone(t, p, api.ErrMany)
		}
	}
}

// Nodes by noise, most of which may not be: no call panics, and each answers as layer 11 says.
func TestAnyNodes(t *testing.T) {
	kinds := []uint8{1, 1, 1, 2, 3, 4, 0, 5}
	for seed := range uint64(30000) {
		c := noise(seed, 4+int(seed%9)*4)
		var l nodes
		for ; len(c) >= 4; c = c[4:] {
			n := api.Node{Kind: kinds[c[0]>>8%8], Size: int(c[1]>>8%5) - 1, Lo: uint8(c[2] >> 8 % 3), Hi: uint8(c[2] >> 16 % 4), Guarded: c[3]>>8%4 == 0}
			if n.Kind == api.One {
				n.Size, n.Lo, n.Hi, n.Guarded = 0, 0, 0, false
			}
			l = append(l, n)
		}
		p := within(1+seed%5, l)
		if errno := tree.May(p); errno != api.OK {
			wantNone(t, p, errno)
		} else {
			asSaid(t, p)
		}
	}
}

// R3, R4, R5

// listsOf are all lists of tests that stand in a pattern.
func listsOf(p api.Pattern) [][]api.Test {
	var all [][]api.Test
	for _, n := range p.Nodes {
		all = append(all, n.Pred.Tests, n.Guard.Tests)
	}
	return all
}

// listsOfAuto are all lists of tests that stand in an automaton.
func listsOfAuto(a api.Auto) [][]api.Test {
	var all [][]api.Test
	for _, p := range a.Preds {
		all = append(all, p.Tests)
	}
	for _, e := range a.Edges {
		all = append(all, e.Guard.Tests)
	}
	return all
}

// testingQuestions are questions with tests, no two the same.
func testingQuestions() []api.Pred {
	return []api.Pred{asked(1, has(0)), asked(2, above(0, 4), has(1)), ofAny(has(1)), ofAny(begins(0, "a"), has(2), has(3))}
}

// sharing are patterns whose questions, guards and repeated Ones have lists.
func sharing() []api.Pattern {
	all := []api.Pattern{
		of(asks(asked(1, has(0)))), of(rep(1, 8, asks(asked(1, has(0), has(1))))),
		of(guarded(ofAny(has(1)), rep(8, 8, asks(asked(1, has(0)))))),
		of(rep(2, 2, guarded(ofAny(has(1)), seq(asks(ofAny(has(2))), asks(ofAny(has(3))))))),
		of(guarded(ofAny(has(1)), seq(alt(asks(ofAny(has(2))), asks(ofAny(has(3)))), alt(asks(ofAny(has(4))), asks(ofAny(has(5))))))),
	}
	for seed := range uint64(400) {
		p := of(asking(grown(seed, int(2+seed%15)), seed, testingQuestions()))
		if _, errno := auto.Compile(p); errno == api.OK {
			all = append(all, p)
		}
	}
	return all
}

func TestNothingHandedInIsChanged(t *testing.T) {
	for _, p := range sharing() {
		before := copiedPattern(p)
		a := compiled(t, p)
		if !tree.Same(p, before) {
			t.Fatalf("%s was %s", told(p), told(before))
		}
		for _, list := range listsOfAuto(a) {
			for i := range list {
				list[i] = above(77, 77)
			}
		}
		for i := range a.Preds {
			a.Preds[i] = asked(77)
		}
		for i := range a.Edges {
			a.Edges[i] = api.Edge{}
		}
		if !tree.Same(p, before) {
			t.Fatalf("what is written into the answer stands in the pattern: %s was %s", told(p), told(before))
		}
		wantAuto(t, p, plainAuto(before))
	}
	for _, c := range refusals() {
		before := copiedPattern(c.p)
		auto.Compile(c.p)
		if !tree.Same(c.p, before) {
			t.Fatalf("%s was %s", told(c.p), told(before))
		}
	}
}

func TestNothingHandedInIsKept(t *testing.T) {
	for _, p := range sharing() {
		a := compiled(t, p)
		before := copiedAuto(a)
		for _, list := range listsOf(p) {
			for i := range list {
				list[i] = above(77, 77)
			}
		}
		wantAuto(t, p, plainAuto(p))
		clear(p.Nodes)
		if !sameAuto(a, before) {
			t.Fatalf("what is written into the pattern stands in the answer: %s was %s", toldAuto(a), toldAuto(before))
		}
	}
}

// No two lists of one answer share memory, of a repetition's copies and of one node's edges neither, even where one is made longer.
func TestListsOfTheirOwn(t *testing.T) {
	for _, p := range sharing() {
		a := compiled(t, p)
		lists := listsOfAuto(a)
		for k := range lists {
			before := copiedAuto(a)
			list := slices.Clone(lists[k])
			for i := range lists[k] {
				lists[k][i] = above(77, int64(k))
			}
			_ = append(lists[k], above(78, 78))
			for other, now := range listsOfAuto(a) {
				if other != k && !slices.Equal(now, listsOfAuto(before)[other]) {
					t.Fatalf("%s: what is written into the list %d stands in the list %d", told(p), k, other)
				}
			}
			copy(lists[k], list)
		}
		_ = append(append(a.Preds, asked(78)), asked(79))
		_ = append(append(a.Edges, api.Edge{From: 78}), api.Edge{From: 79})
		wantAuto(t, p, a)
	}
}

// Nodes that stand behind those that are handed in, in the same memory, are neither asked nor written.
func TestRoomBehindWhatIsHandedIn(t *testing.T) {
	l := append(seq(one(1), rep(1, 2, one(2))), api.Node{Kind: 77, Size: 5}, api.Node{Kind: api.One, Pred: asked(8)})
	wantAuto(t, of(l[:4]), plainAuto(of(l[:4:4])))
	if l[4].Kind != 77 || l[4].Size != 5 || l[5].Pred.Topic != 8 {
		t.Errorf("%v was written", l[4:])
	}
}

// A list that is nil and one that is empty are the same.
func TestEmptyLists(t *testing.T) {
	l := not(9, seq(one(1), rep(1, 2, one(2))))
	want := compiled(t, of(l))
	for i := range l {
		l[i].Pred.Tests, l[i].Guard.Tests = []api.Test{}, []api.Test{}
	}
	wantAuto(t, of(l), want)
}

func TestTheSameAnswerAgain(t *testing.T) {
	for _, p := range grownPatterns(300) {
		want, errno := auto.Compile(p)
		for range 5 {
			if a, again := auto.Compile(copiedPattern(p)); again != errno || !sameAuto(a, want) {
				t.Fatalf("Compile of %s = %s, %v, then %s, %v", told(p), toldAuto(want), errno, toldAuto(a), again)
			}
		}
	}
}
