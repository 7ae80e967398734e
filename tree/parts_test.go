package tree_test

import (
	"math"
	"slices"
	"testing"

	"equerry/api"
	"equerry/tree"
)

// P11.1: Parts

// partsAsSaid wants of a row what the chapter says of its parts.
func partsAsSaid(t *testing.T, l row) {
	t.Helper()
	got, want := tree.Parts(l), plainParts(l)
	if len(got) != len(want) {
		t.Errorf("Parts of %s = %d, want %d", short(l), len(got), len(want))
		return
	}
	for i, part := range got {
		if !identicalNodes(part, l[want[i][0]:want[i][1]]) {
			t.Errorf("part %d of %s = %s", i, short(l), short(part))
		}
	}
}

// wantParts wants the parts of a row, each to the last bit.
func wantParts(t *testing.T, l row, want ...row) {
	t.Helper()
	if got := tree.Parts(l); !slices.EqualFunc(got, want, identicalNodes) {
		t.Errorf("Parts of %s = %v, want %v", short(l), got, want)
	}
	partsAsSaid(t, l)
}

func TestKnownParts(t *testing.T) {
	inner := guarded(asked(9), seq(one(2), one(3)))
	wantParts(t, seq(one(1), one(2)), one(1), one(2))
	wantParts(t, seq(one(1), inner, one(4)), one(1), inner, one(4))
	wantParts(t, alt(inner, rep(2, 3, inner)), inner, rep(2, 3, inner))
	wantParts(t, rep(1, 8, one(7)), one(7))
	wantParts(t, rep(1, 8, inner), inner)
	wantParts(t, guarded(asked(8), rep(1, 8, rep(2, 2, inner))), rep(2, 2, inner))
	wantParts(t, deep(4), deep(3))
	wantParts(t, seq(ones(31)...), ones(31)...)
	for _, q := range questions() {
		wantParts(t, guarded(q, seq(asks(q), one(1))), asks(q), one(1))
	}
}

func TestPartsOfNoneAndOfOnes(t *testing.T) {
	wantParts(t, nil)
	wantParts(t, row{})
	wantParts(t, make(row, 5)[:0])
	for _, q := range append(questions(), wrongQuestions()...) {
		wantParts(t, asks(q))
	}
	wantParts(t, slices.Concat(one(1), one(2)))
	wantParts(t, slices.Concat(one(1), seq(one(2), one(3))))
}

// Parts that end behind where the Size says, or ahead of that, and Sizes that are none.
func TestPartsThatDontEndWhereTheSizeSays(t *testing.T) {
	good := seq(one(1), rep(1, 2, one(2)), one(3))
	for _, at := range []int{0, 1, 2, 4} { // 3 stands in a part, and isn't one
		for _, size := range append(sizes(), 5, 6, 32) {
			wantParts(t, changed(good, at, func(n *api.Node) { n.Size = size }))
		}
	}
	wantParts(t, changed(good, 2, func(n *api.Node) { n.Size = 3 }))
	wantParts(t, changed(good, 4, func(n *api.Node) { n.Size = 1 }))
	wantParts(t, changed(good, 1, func(n *api.Node) { n.Size = 4 }))
	wantParts(t, changed(good, 0, func(n *api.Node) { n.Size = 2 })) // the Rep's part is behind
	wantParts(t, changed(good, 0, func(n *api.Node) { n.Size = math.MinInt }))
	for have := 1; have < len(good); have++ {
		wantParts(t, good[:have])
	}
	wantParts(t, changed(slices.Concat(good, one(4)), 4, func(n *api.Node) { n.Size = 1 })) // within the row, but not within the node
}

// What is behind the first node's pattern is none of its parts, whatever it is.
func TestPartsOfARowWithMoreBehind(t *testing.T) {
	good := seq(one(1), rep(1, 2, one(2)), one(3))
	behinds := []row{one(4), good, {{}}, {{Size: -1}}, {{Kind: api.Seq, Size: 99}}, make(row, 100)}
	for _, behind := range behinds {
		wantParts(t, slices.Concat(good, behind), one(1), rep(1, 2, one(2)), one(3))
		wantParts(t, slices.Concat(one(1), behind))
		wantParts(t, slices.Concat(rep(1, 2, good), behind), good)
	}
	wantParts(t, changed(good, 0, func(n *api.Node) { n.Size = 3 }), one(1), rep(1, 2, one(2)))
	wantParts(t, changed(good, 0, func(n *api.Node) { n.Size = 1 }), one(1))
	wantParts(t, changed(good, 0, func(n *api.Node) { n.Size = 0 }))
}

// What stands in a part doesn't count, nor what may not be of a node but its Size.
func TestPartsOfWhatMayNotBe(t *testing.T) {
	inner := row{{Kind: api.Seq, Size: 2}, {Kind: api.One, Size: 9}, {Kind: 77, Size: -1}}
	wantParts(t, seq(one(1), inner), one(1), inner)
	wantParts(t, rep(0, 0, inner), inner)
	for kind := range uint8(6) {
		wantParts(t, node(kind, one(1)), one(1))
		wantParts(t, node(kind, one(1), inner, one(2)), one(1), inner, one(2))
	}
	for _, q := range wrongQuestions() {
		wantParts(t, guarded(q, alt(asks(q), one(1))), asks(q), one(1))
	}
	wantParts(t, seq(ones(40)...), ones(40)...)
	wantParts(t, deep(40), deep(39))
	wantParts(t, node(api.Seq, ones(300)...), ones(300)...)
}

func TestPartsOfAllShortRows(t *testing.T) {
	var choice row
	for size := -1; size <= 4; size++ {
		choice = append(choice, api.Node{Kind: api.Seq, Size: size})
	}
	eachRow(choice, nil, 6, func(l row) { partsAsSaid(t, l) })
}

// Whoever appends to a part writes neither into the next one, nor into what was handed in.
func TestPartsEndWhereTheyEnd(t *testing.T) {
	for _, p := range patterns() {
		l := slices.Concat(p.Nodes, one(200))
		before := copied(of(l)).Nodes
		parts := tree.Parts(l)
		for i := range parts {
			parts[i] = append(parts[i], api.Node{Kind: 99})
		}
		if !identicalNodes(l, before) {
			t.Fatalf("%s became %s", short(before), short(l))
		}
		for i, part := range tree.Parts(l) {
			if cap(part) != len(part) || !identicalNodes(parts[i], append(slices.Clone(part), api.Node{Kind: 99})) {
				t.Fatalf("part %d of %s has room for %d, and became %s", i, short(l), cap(part), short(parts[i]))
			}
		}
	}
}

// P11.2

// joinsAgain wants a node and its parts' nodes to be its pattern's, and so on.
func joinsAgain(t *testing.T, l row) {
	t.Helper()
	parts := tree.Parts(l)
	if joined := slices.Concat(l[:1], slices.Concat(parts...)); !identicalNodes(joined, l) {
		t.Fatalf("%s came out as %s", short(l), short(joined))
	}
	for _, part := range parts {
		if len(part) != part[0].Size+1 {
			t.Fatalf("a part of %s is %s", short(l), short(part))
		}
		joinsAgain(t, part)
	}
}

func TestPartsMakeTheWhole(t *testing.T) {
	for _, p := range patterns() {
		joinsAgain(t, p.Nodes)
	}
	for n := 1; n <= 7; n++ {
		for _, l := range shapes(n) {
			joinsAgain(t, l)
		}
	}
}

// Each part of a pattern that may be may be, if nothing else is asked of it.
func TestPartsMayBe(t *testing.T) {
	for _, p := range patterns() {
		for _, part := range tree.Parts(p.Nodes) {
			wantMay(t, of(part), api.OK)
			if tree.Depth(of(part)) >= tree.Depth(p) || tree.Places(of(part)) > tree.Places(p) {
				t.Errorf("%s in %s", short(part), shortPattern(p))
			}
		}
	}
}

// P11.1: Same

// wantSame wants an answer, whichever of the two comes first.
func wantSame(t *testing.T, a, b api.Pattern, want bool) {
	t.Helper()
	if tree.Same(a, b) != want || tree.Same(b, a) != want {
		t.Errorf("Same of %s, and %s = %v, %v", shortPattern(a), shortPattern(b), tree.Same(a, b), tree.Same(b, a))
	}
}

func TestSameOfItself(t *testing.T) {
	for _, p := range append(patterns(), wrongPatterns()...) {
		wantSame(t, p, p, true)
		wantSame(t, p, copied(p), true)
	}
	wantSame(t, api.Pattern{}, api.Pattern{Nodes: row{}}, true)
	wantSame(t, of(asks(api.Pred{})), of(asks(api.Pred{Tests: []api.Test{}})), true)
}

func TestSameOfAll(t *testing.T) {
	all := append(patterns(), wrongPatterns()[:200]...)
	for i, a := range all {
		for k := i % 7; k < len(all); k += 7 {
			if got := tree.Same(a, all[k]); got != plainSame(a, all[k]) {
				t.Fatalf("Same of %s, and %s = %v", shortPattern(a), shortPattern(all[k]), got)
			}
		}
	}
}

// questionChanges are changes of one field of a question each.
func questionChanges(p *api.Pred) []func() {
	all := []func(){
		func() { p.Any = !p.Any }, func() { p.Topic ^= 1 }, func() { p.Topic ^= 128 },
		func() { p.Tests = append(p.Tests, has(0)) },
	}
	for i := range p.Tests {
		x := &p.Tests[i]
		all = append(all, func() { x.Field ^= 1 }, func() { x.Op ^= 8 }, func() { x.Value.Kind ^= 4 },
			func() { x.Value = text("other") }, func() { p.Tests = slices.Delete(p.Tests, i, i+1) })
	}
	return all
}

// nodeChanges are changes of one field of a node each.
func nodeChanges(n *api.Node) []func() {
	all := []func(){
		func() { n.Kind ^= 1 }, func() { n.Kind ^= 128 }, func() { n.Guarded = !n.Guarded },
		func() { n.Lo ^= 1 }, func() { n.Lo ^= 128 }, func() { n.Hi ^= 1 }, func() { n.Hi ^= 128 },
		func() { n.Size++ }, func() { n.Size-- }, func() { n.Size = -n.Size - 1 }, func() { n.Size ^= 1 << 32 },
	}
	return slices.Concat(all, questionChanges(&n.Pred), questionChanges(&n.Guard))
}

// Patterns that differ in one field alone aren't the same.
func TestSameOfOneDifference(t *testing.T) {
	for _, p := range slices.Concat(everyNth(patterns(), 9), wrongPatterns()[:30]) {
		for _, bit := range []uint64{1, 2, 1 << 20, 1 << 32, 1 << 63} {
			wantSame(t, p, api.Pattern{Nodes: p.Nodes, Window: p.Window ^ bit}, false)
		}
		for at, n := range p.Nodes[:min(len(p.Nodes), 32)] {
			for i := range nodeChanges(&n) {
				q := copied(p)
				nodeChanges(&q.Nodes[at])[i]()
				if tree.Same(p, q) || tree.Same(q, p) {
					t.Fatalf("change %d of node %d of %s is the same", i, at, shortPattern(p))
				}
			}
		}
		wantSame(t, p, api.Pattern{Nodes: append(slices.Clone(p.Nodes), api.Node{}), Window: p.Window}, false)
		if len(p.Nodes) > 0 {
			wantSame(t, p, api.Pattern{Nodes: p.Nodes[1:], Window: p.Window}, false)
			wantSame(t, p, api.Pattern{Nodes: p.Nodes[:len(p.Nodes)-1], Window: p.Window}, false)
			wantSame(t, p, api.Pattern{Window: p.Window}, false)
		}
	}
}

// What differs in two fields isn't the same either, though their difference, or their sum, is.
func TestSameOfOtherTimes(t *testing.T) {
	for lo := uint8(1); lo <= 8; lo++ {
		for hi := lo; hi <= 8; hi++ {
			p := rep(lo, hi, one(1))
			for other := range uint8(10) {
				for more := range uint8(10) {
					want := other == lo && more == hi
					wantSame(t, of(p), of(rep(other, more, one(1))), want)
					wantSame(t, of(seq(one(1), p)), of(seq(one(1), rep(other, more, one(1)))), want)
				}
			}
		}
	}
	wantSame(t, of(asks(asked(1))), of(row{{Kind: api.One, Guard: asked(1)}}), false)
}

// Questions are held against each other as layer 10 does, in a One and in a Guard.
func TestSameAsQuestionsAre(t *testing.T) {
	equals := func(v api.Value) api.Pred { return asked(1, api.Test{Op: api.Eq, Value: v}) }
	for _, c := range []struct {
		a, b api.Value
		want bool
	}{
		{number(math.NaN()), number(math.Float64frombits(math.Float64bits(math.NaN()) + 1)), true},
		{number(0), number(math.Copysign(0, -1)), false},
		{whole(7), number(7), false},
		{whole(7), api.Value{Kind: api.Whole, Int: 7, Text: "a"}, true},
		{api.Value{}, api.Value{Int: 1}, true},
		{text("a"), text("b"), false},
	} {
		p, q := of(asks(equals(c.a))), of(asks(equals(c.b)))
		wantSame(t, p, q, c.want)
		wantSame(t, of(guarded(equals(c.a), seq(ones(2)...))), of(guarded(equals(c.b), seq(ones(2)...))), c.want)
		wantSame(t, of(rep(1, 2, p.Nodes)), of(rep(1, 2, q.Nodes)), c.want)
	}
	wantSame(t, of(seq(one(1), one(2))), of(seq(one(2), one(1))), false)
}

// P11.1: Own

// scribble writes into all lists that a pattern has.
func scribble(p api.Pattern) {
	for i := range p.Nodes {
		n := &p.Nodes[i]
		for _, tests := range [][]api.Test{n.Pred.Tests, n.Guard.Tests} {
			for k := range tests {
				tests[k] = api.Test{Field: 99, Op: 99, Value: text("scribbled")}
			}
		}
		*n = api.Node{Kind: 99, Size: 99}
	}
}

// ownAsSaid wants of a pattern's own one that it is the same to the last bit, and shares no list with it.
func ownAsSaid(t *testing.T, p api.Pattern) {
	t.Helper()
	p, before := copied(p), copied(p)
	own := tree.Own(p)
	if !identical(own, before) || !tree.Same(own, before) {
		t.Errorf("Own of %s = %s", shortPattern(before), shortPattern(own))
	}
	other := tree.Own(p)
	scribble(other)
	if !identical(p, before) || !identical(own, before) {
		t.Errorf("what is written into %s's own one is seen", shortPattern(before))
	}
	scribble(p)
	if !identical(own, before) {
		t.Errorf("what is written into %s is seen in its own one", shortPattern(before))
	}
}

func TestOwn(t *testing.T) {
	for _, p := range append(patterns(), wrongPatterns()...) {
		ownAsSaid(t, p)
	}
}

// NaNs, and what may not be of a question, stay to the last bit.
func TestOwnOfAnyQuestions(t *testing.T) {
	odd := asked(3, api.Test{Op: 77, Value: api.Value{Kind: 9, Int: 1, Real: math.Float64frombits(0xfff8000000000001), Text: "a"}}, has(1))
	for _, q := range append(append(questions(), wrongQuestions()...), odd) {
		ownAsSaid(t, of(asks(q)))
		ownAsSaid(t, of(guarded(q, seq(asks(q), one(1), asks(q)))))
		ownAsSaid(t, of(row{{Kind: 99, Pred: q, Guard: q, Lo: 9, Hi: 1, Size: -7}}))
	}
}

// No two lists of an own one are the same memory, though they were where it came from.
func TestOwnOfSharedLists(t *testing.T) {
	tests := []api.Test{has(1), has(2)}
	p := of(row{{Kind: api.Seq, Size: 2, Guarded: true, Guard: api.Pred{Tests: tests}, Pred: api.Pred{Tests: tests[:1]}}, asks(asked(1, tests...))[0], asks(asked(2, tests...))[0]})
	own := tree.Own(p)
	var lists [][]api.Test
	for _, n := range own.Nodes {
		lists = append(lists, n.Pred.Tests, n.Guard.Tests)
	}
	for i, l := range lists {
		for k := range l {
			l[k].Field = uint8(10*i + k)
		}
	}
	for i, l := range lists {
		for k, x := range l {
			if x.Field != uint8(10*i+k) {
				t.Errorf("list %d has %d at %d", i, x.Field, k)
			}
		}
	}
	if tests[0] != has(1) || tests[1] != has(2) {
		t.Errorf("%v was handed in, and written", tests)
	}
}

// Room behind a list that is handed in isn't written.
func TestOwnOfListsWithRoom(t *testing.T) {
	nodes, tests := slices.Concat(seq(one(1), one(2)), one(3)), []api.Test{has(1), has(2)}
	nodes[1].Pred.Tests = tests[:1]
	own := tree.Own(of(nodes[:3]))
	own.Nodes = append(own.Nodes, api.Node{Kind: 99})
	own.Nodes[1].Pred.Tests = append(own.Nodes[1].Pred.Tests, has(99))
	if nodes[3].Kind != api.One || tests[1] != has(2) {
		t.Errorf("%s, %v was handed in, and written", short(nodes), tests)
	}
}
