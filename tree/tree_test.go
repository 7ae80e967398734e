package tree_test

import (
	"math"
	"slices"
	"testing"

	"equerry/api"
	"equerry/tree"
)

// P11.1: May, Places, Depth

// wantMay wants an answer of May, and of a pattern that may not be neither places nor depth.
func wantMay(t *testing.T, p api.Pattern, want api.Errno) {
	t.Helper()
	if got := tree.May(p); got != want {
		t.Errorf("May of %s = %v, want %v", shortPattern(p), got, want)
	}
	if places, depth := tree.Places(p), tree.Depth(p); want != api.OK && (places != 0 || depth != 0) {
		t.Errorf("%s may not be: %d places, %d deep", shortPattern(p), places, depth)
	}
}

// wantSizes wants places and a depth, of a pattern that may be.
func wantSizes(t *testing.T, l row, places, depth int) {
	t.Helper()
	wantMay(t, of(l), api.OK)
	if p, d := tree.Places(of(l)), tree.Depth(of(l)); p != places || d != depth {
		t.Errorf("%s: %d places, %d deep, want %d, %d", short(l), p, d, places, depth)
	}
}

// asSaid wants of a pattern what the chapter says.
func asSaid(t *testing.T, p api.Pattern) {
	t.Helper()
	want := plainMay(p)
	wantMay(t, p, want)
	if want == api.OK {
		places, depth := plainPlaces(p.Nodes), plainDepth(p.Nodes)
		if got, levels := tree.Places(p), tree.Depth(p); got != places || levels != depth {
			t.Errorf("%s: %d places, %d deep, want %d, %d", shortPattern(p), got, levels, places, depth)
		}
	}
}

func TestKnownPatterns(t *testing.T) {
	pair := seq(one(1), one(2))
	for _, c := range []struct {
		l             row
		places, depth int
	}{
		{one(1), 1, 0},
		{pair, 2, 1},
		{rep(2, 3, pair), 6, 2},
		{alt(one(1), one(2), one(3)), 3, 1},
		{guarded(asked(3), pair), 2, 1},
		{guarded(asked(3), rep(1, 8, one(1))), 8, 1},
		{rep(1, 1, one(1)), 1, 1},
		{seq(one(1), alt(one(2), one(3))), 3, 2},
		{seq(pair, one(3), rep(1, 4, alt(one(4), rep(1, 3, one(5))))), 19, 4},
		{rep(2, 2, rep(2, 2, rep(2, 2, rep(2, 2, rep(2, 2, one(1)))))), 32, 5},
		{rep(3, 4, rep(2, 8, one(1))), 32, 2},
	} {
		wantSizes(t, c.l, c.places, c.depth)
	}
}

func TestAllShortPatternsMayBe(t *testing.T) {
	for _, p := range patterns() {
		wantSizes(t, p.Nodes, plainPlaces(p.Nodes), plainDepth(p.Nodes))
		asSaid(t, p)
	}
}

func TestHowManyNodes(t *testing.T) {
	wantMay(t, of(nil), api.ErrForm)
	wantMay(t, of(row{}), api.ErrForm)
	wantSizes(t, seq(ones(30)...), 30, 1)
	wantSizes(t, seq(ones(31)...), 31, 1)
	wantMay(t, of(seq(ones(32)...)), api.ErrMany)
	wantSizes(t, alt(ones(31)...), 31, 1)
	wantMay(t, of(alt(ones(32)...)), api.ErrMany)
	wantSizes(t, seq(one(1), deep(7), deep(7), deep(7), deep(5)), 5, 8)
	wantMay(t, of(seq(one(1), deep(7), deep(7), deep(7), deep(6))), api.ErrMany)
	for _, n := range []int{33, 34, 64, 255, 256, 257, 288, 1 << 16} {
		wantMay(t, of(make(row, n)), api.ErrMany)
		wantMay(t, of(seq(ones(n)...)), api.ErrMany)
	}
	wantMay(t, of(make(row, 32)), api.ErrForm)
}

// A row that is as long as it is only since each node has one part goes as deep as it is long.
func TestLongRowsOfOneInTheOther(t *testing.T) {
	wantMay(t, of(deep(31)), api.ErrDeep)
	wantMay(t, of(deep(32)), api.ErrMany)
	wantMay(t, of(deep(1000)), api.ErrMany)
}

// sizes are Sizes that are none of a node's of rows as short as those here.
func sizes() []int {
	return []int{-1, -2, -32, math.MinInt, math.MinInt + 1, -1 << 31, -1 << 32, 33, 64, 255, 256, 1 << 31, 1 << 32, 1<<32 + 1, 1<<32 + 2, math.MaxInt - 1, math.MaxInt}
}

func TestSizesThatAreNone(t *testing.T) {
	for _, p := range everyNth(patterns(), 3) {
		for at := range p.Nodes {
			for _, size := range sizes() {
				wantMay(t, of(changed(p.Nodes, at, func(n *api.Node) { n.Size = size })), api.ErrForm)
			}
			for _, more := range []int{1 << 8, 1 << 16, 1 << 32, -1 << 8, -1 << 32} {
				wantMay(t, of(changed(p.Nodes, at, func(n *api.Node) { n.Size += more })), api.ErrForm)
			}
		}
	}
}

// The first node's Size is how many nodes are behind it.
func TestTheFirstSize(t *testing.T) {
	for _, p := range patterns() {
		for size := -3; size < len(p.Nodes)+3; size++ {
			want := api.ErrForm
			if size == len(p.Nodes)-1 {
				want = api.OK
			}
			wantMay(t, of(changed(p.Nodes, 0, func(n *api.Node) { n.Size = size })), want)
		}
		if len(p.Nodes) < 32 {
			wantMay(t, of(slices.Concat(p.Nodes, one(1))), api.ErrForm)
		}
		if len(p.Nodes) > 1 {
			wantMay(t, of(p.Nodes[:len(p.Nodes)-1]), api.ErrForm)
			wantMay(t, of(p.Nodes[:1]), api.ErrForm)
		}
	}
}

// Parts that end ahead of where their Size says, and behind that, in a first node and in one that stands in it.
func TestWherePartsEnd(t *testing.T) {
	long := changed(seq(one(1), rep(1, 2, one(2))), 2, func(n *api.Node) { n.Size = 2 })
	early := changed(seq(one(1), one(2)), 0, func(n *api.Node) { n.Size = 3 })
	for _, l := range []row{long, early} {
		wantMay(t, of(l), api.ErrForm)
		wantMay(t, of(rep(1, 2, l)), api.ErrForm)
		wantMay(t, of(seq(l, one(3))), api.ErrForm)
		wantMay(t, of(alt(one(3), l)), api.ErrForm)
	}
	wantMay(t, of(alt(one(3), long, one(4))), api.ErrForm)
	wantMay(t, of(alt(one(3), early, one(4))), api.OK) // what comes behind it is its third part
	inner := func(size int) row {
		return changed(seq(alt(one(1), one(2), one(3)), one(4), one(5)), 1, func(n *api.Node) { n.Size = size })
	}
	for size, want := range []api.Errno{api.ErrForm, api.ErrForm, api.OK, api.OK, api.OK, api.ErrForm, api.ErrForm} { // of 5 the Seq has one part alone
		wantMay(t, of(inner(size)), want)
	}
}

func TestKindsThatAreNone(t *testing.T) {
	for _, p := range everyNth(patterns(), 3) {
		for at := range p.Nodes {
			for _, kind := range []uint8{0, 5, 6, 7, 8, 9, 16, 17, 18, 19, 20, 127, 128, 129, 130, 131, 132, 254, 255} {
				wantMay(t, of(changed(p.Nodes, at, func(n *api.Node) { n.Kind = kind })), api.ErrForm)
			}
		}
	}
	for kind := range 256 {
		l := changed(one(1), 0, func(n *api.Node) { n.Kind, n.Pred = uint8(kind), api.Pred{} })
		asSaid(t, of(l))
		for parts := range 5 {
			asSaid(t, of(node(uint8(kind), ones(parts)...)))
			asSaid(t, of(seq(one(1), node(uint8(kind), ones(parts)...))))
		}
	}
}

func TestHowManyParts(t *testing.T) {
	for parts := range 6 {
		want := map[uint8]api.Errno{api.One: api.ErrForm, api.Seq: api.ErrForm, api.Alt: api.ErrForm, api.Rep: api.ErrForm}
		switch {
		case parts == 0:
			want[api.One] = api.OK
		case parts == 1:
			want[api.Rep] = api.OK
		default:
			want[api.Seq], want[api.Alt] = api.OK, api.OK
		}
		for kind, errno := range want {
			l := node(kind, ones(parts)...)
			if kind == api.Rep {
				l = rep(1, 2, ones(parts)...)
			}
			wantMay(t, of(l), errno)
			wantMay(t, of(seq(one(1), l)), errno)
			wantMay(t, of(rep(1, 3, alt(l, one(1)))), errno)
		}
	}
	wantMay(t, of(alt(seq(one(1), one(2)))), api.ErrForm) // one part of three nodes is one part
	wantMay(t, of(seq(alt(one(1), one(2)))), api.ErrForm)
	wantMay(t, of(rep(1, 2, seq(one(1), one(2)))), api.OK)
	wantMay(t, of(rep(1, 2, one(1), seq(one(1), one(2)))), api.ErrForm)
}

func TestLoAndHi(t *testing.T) {
	for lo := range 256 {
		for hi := range 256 {
			want := api.ErrForm
			if 1 <= lo && lo <= hi && hi <= 8 {
				want = api.OK
			}
			l := rep(uint8(lo), uint8(hi), one(1))
			if got := tree.May(of(l)); got != want {
				t.Fatalf("May of %d to %d times = %v", lo, hi, got)
			}
			if want == api.OK {
				wantSizes(t, l, hi, 1)
				wantSizes(t, guarded(asked(3), l), hi, 1)
				wantSizes(t, seq(one(1), l), hi+1, 2)
				wantSizes(t, rep(1, 2, rep(uint8(lo), uint8(hi), alt(ones(2)...))), 4*hi, 3)
			}
		}
	}
}

// Each field that a kind doesn't name must be zero.
func TestFieldsThatMustBeZero(t *testing.T) {
	unnamed := func(kind uint8, guarded bool) []func(n *api.Node) {
		var all []func(n *api.Node)
		for _, q := range append(append(questions(), wrongQuestions()...), api.Pred{Topic: 128}, asked(0, has(0))) {
			if kind != api.One {
				all = append(all, func(n *api.Node) { n.Pred = q })
			}
			if !guarded {
				all = append(all, func(n *api.Node) { n.Guard = q })
			}
			if kind == api.One || kind == api.Alt {
				all = append(all, func(n *api.Node) { n.Guarded, n.Guard = true, q })
			}
		}
		if kind == api.One || kind == api.Alt {
			all = append(all, func(n *api.Node) { n.Guarded = true })
		}
		for _, times := range []uint8{1, 2, 8, 9, 128, 255} {
			if kind != api.Rep {
				all = append(all, func(n *api.Node) { n.Lo = times }, func(n *api.Node) { n.Hi = times }, func(n *api.Node) { n.Lo, n.Hi = times, times })
			}
		}
		return all
	}
	for _, p := range everyNth(patterns(), 5) {
		for at, n := range p.Nodes {
			for _, change := range unnamed(n.Kind, n.Guarded) {
				wantMay(t, of(changed(p.Nodes, at, change)), api.ErrForm)
			}
		}
	}
}

// A list without tests is none.
func TestFieldsThatAreZeroThoughTheyHaveAList(t *testing.T) {
	for _, p := range everyNth(patterns(), 3) {
		l := copied(p).Nodes
		for i, n := range l {
			if len(n.Pred.Tests) == 0 {
				l[i].Pred.Tests = []api.Test{}
			}
			if len(n.Guard.Tests) == 0 {
				l[i].Guard.Tests = make([]api.Test, 0, 4)
			}
		}
		wantMay(t, of(l), api.OK)
	}
}

func TestGuards(t *testing.T) {
	for _, q := range append(questions(), api.Pred{}) {
		for _, l := range []row{seq(one(1), one(2)), rep(1, 3, one(1))} {
			places := plainPlaces(l)
			wantSizes(t, guarded(q, l), places, 1)
			wantSizes(t, alt(one(1), guarded(q, l)), places+1, 2)
		}
		for _, l := range []row{one(1), alt(one(1), one(2))} {
			wantMay(t, of(guarded(q, l)), api.ErrForm)
			wantMay(t, of(seq(one(1), guarded(q, l))), api.ErrForm)
			wantMay(t, of(guarded(q, rep(1, 2, guarded(q, l)))), api.ErrForm)
		}
	}
}

func TestQuestionsThatMayNotBe(t *testing.T) {
	for _, q := range wrongQuestions() {
		wantMay(t, of(asks(q)), api.ErrArg)
		for _, p := range everyNth(patterns(), 3) {
			for at, n := range p.Nodes {
				if n.Kind == api.One {
					wantMay(t, of(changed(p.Nodes, at, func(n *api.Node) { n.Pred = q })), api.ErrArg)
				}
				if n.Guarded {
					wantMay(t, of(changed(p.Nodes, at, func(n *api.Node) { n.Guard = q })), api.ErrArg)
				}
			}
		}
	}
}

func TestHowDeep(t *testing.T) {
	wraps := []func(l row) row{
		func(l row) row { return rep(1, 1, l) },
		func(l row) row { return guarded(asked(9), rep(1, 1, l)) },
		func(l row) row { return seq(l, one(1)) },
		func(l row) row { return seq(one(1), l) },
		func(l row) row { return alt(one(1), l, one(2)) },
	}
	for _, wrap := range wraps {
		l := one(1)
		for levels := 1; levels <= 8; levels++ {
			l = wrap(l)
			wantSizes(t, l, plainPlaces(l), levels)
		}
		wantMay(t, of(wrap(l)), api.ErrDeep)
	}
	for n := range 10 {
		for m := range 10 {
			want := api.OK
			if max(n, m) > 7 {
				want = api.ErrDeep
			}
			wantMay(t, of(seq(deep(n), deep(m))), want)
			wantMay(t, of(alt(deep(n), one(1), deep(m))), want)
			if want == api.OK {
				wantSizes(t, seq(deep(n), deep(m)), 2, 1+max(n, m))
				wantSizes(t, alt(deep(n), one(1), deep(m)), 3, 1+max(n, m))
			}
		}
	}
}

func TestWindows(t *testing.T) {
	below := -1
	for _, p := range everyNth(patterns(), 3) {
		for _, w := range []uint64{1, 2, 5, 255, 256, 1 << 16, 1<<20 - 1, 1 << 20} {
			p.Window = w
			asSaid(t, p)
			wantMay(t, p, api.OK)
		}
		for _, w := range []uint64{0, 1<<20 + 1, 1<<20 + 2, 1 << 21, 1 << 31, 1 << 32, 1<<32 + 5, 1 << 40, 1 << 63, 1<<63 + 5, uint64(below), uint64(below - 4)} {
			p.Window = w
			wantMay(t, p, api.ErrRange)
		}
	}
}

func TestHowManyPlaces(t *testing.T) {
	fours := rep(1, 4, rep(1, 8, one(1)))
	wantSizes(t, fours, 32, 2)
	wantMay(t, of(seq(fours, one(1))), api.ErrLong)
	wantMay(t, of(alt(one(1), fours)), api.ErrLong)
	wantSizes(t, seq(rep(1, 8, one(1)), rep(1, 8, one(1)), rep(1, 8, one(1)), rep(1, 7, one(1)), one(1)), 32, 2)
	wantMay(t, of(seq(rep(1, 8, one(1)), rep(1, 8, one(1)), rep(1, 8, one(1)), rep(1, 8, one(1)), one(1))), api.ErrLong)
	wantSizes(t, alt(rep(1, 8, alt(ones(3)...)), rep(1, 8, one(1))), 32, 3)
	wantMay(t, of(alt(rep(1, 8, alt(ones(3)...)), rep(1, 8, one(1)), one(1))), api.ErrLong)
	wantMay(t, of(rep(1, 3, seq(ones(11)...))), api.ErrLong) // 33
	wantSizes(t, rep(1, 2, seq(ones(16)...)), 32, 2)
	wantMay(t, of(rep(2, 2, seq(ones(17)...))), api.ErrLong)
	wantMay(t, of(rep(1, 3, seq(one(1), rep(1, 5, rep(1, 2, one(2)))))), api.ErrLong) // 33
	wantSizes(t, rep(1, 2, seq(one(1), rep(1, 5, seq(one(2), rep(1, 2, one(3)))))), 32, 5)
	wantSizes(t, rep(1, 1, rep(1, 1, seq(ones(29)...))), 29, 3)
	l := one(1)
	for range 8 {
		l = rep(8, 8, l)
		asSaid(t, of(l))
	}
	wantMay(t, of(l), api.ErrLong)
	wantMay(t, of(changed(l, 0, func(n *api.Node) { n.Lo = 1 })), api.ErrLong) // Hi counts, not Lo
}

// All products of two repetitions, with a One beside them or without.
func TestPlacesOfRepetitionsInRepetitions(t *testing.T) {
	for a := uint8(1); a <= 8; a++ {
		for b := uint8(1); b <= 8; b++ {
			for c := uint8(1); c <= 8; c++ {
				asSaid(t, of(rep(1, a, rep(1, b, rep(1, c, one(1))))))
				asSaid(t, of(rep(a, a, seq(one(1), rep(b, b, alt(rep(c, c, one(1)), one(2)))))))
			}
		}
	}
}

// faults are patterns' parts with a fault each, in the order in which they are told; the one of the window is no part.
func faults() []row {
	many := make([]row, 15)
	for i := range many {
		many[i] = rep(1, 1, one(1)) // no more places than nodes with parts
	}
	unformed := changed(one(1), 0, func(n *api.Node) { n.Hi = 1 })
	return []row{seq(many...), unformed, asks(api.Pred{Any: true, Topic: 1}), deep(9), nil, rep(1, 5, rep(1, 8, one(1)))}
}

// Of all sets of faults the first one is told, in whatever order they stand.
func TestWhichFaultComesFirst(t *testing.T) {
	order := []api.Errno{api.ErrMany, api.ErrForm, api.ErrArg, api.ErrDeep, api.ErrRange, api.ErrLong, api.OK}
	for set := range 1 << 6 {
		parts, first := ones(2), 6
		for i, fault := range faults() {
			if set>>i&1 == 0 {
				continue
			}
			first = min(first, i)
			if i != 4 {
				parts = append(parts, fault)
			}
		}
		windows := []uint64{1, mostWindow}
		if set>>4&1 == 1 {
			windows = []uint64{0, mostWindow + 1, math.MaxUint64}
		}
		for range len(parts) {
			for _, w := range windows {
				wantMay(t, api.Pattern{Nodes: seq(parts...), Window: w}, order[first])
			}
			parts = append(parts[1:], parts[0])
		}
	}
}

// What isn't formed is told ahead of a question that may not be, wherever both stand.
func TestFormAheadOfQuestions(t *testing.T) {
	wrong := asks(api.Pred{Any: true, Topic: 1})
	for _, unformed := range []row{{{}}, {{Kind: 5}}, rep(0, 1, one(1)), rep(1, 9, one(1)), seq(one(1)), changed(one(1), 0, func(n *api.Node) { n.Guard.Topic = 1 }), changed(one(1), 0, func(n *api.Node) { n.Size = 7 })} {
		wantMay(t, of(seq(wrong, unformed)), api.ErrForm)
		wantMay(t, of(seq(unformed, wrong)), api.ErrForm)
		wantMay(t, of(seq(seq(wrong, one(1)), rep(1, 1, unformed))), api.ErrForm)
		wantMay(t, of(guarded(wrong[0].Pred, seq(one(1), unformed))), api.ErrForm)
	}
	wantMay(t, api.Pattern{Nodes: wrong}, api.ErrArg)
	wantMay(t, api.Pattern{}, api.ErrForm)
	wantMay(t, api.Pattern{Nodes: deep(9)}, api.ErrDeep)
	wantMay(t, api.Pattern{Nodes: rep(1, 5, rep(1, 8, one(1)))}, api.ErrRange)
}

// All rows of a few nodes, of all kinds and of all Sizes that might fit.
func TestAllShortRows(t *testing.T) {
	var choice row
	for kind := range uint8(6) {
		for size := -1; size <= 4; size++ {
			n := api.Node{Kind: kind, Size: size}
			if kind == api.Rep {
				n.Lo, n.Hi = 1, 5
			}
			choice = append(choice, n)
		}
	}
	eachRow(choice, nil, 3, func(l row) { asSaid(t, of(l)) })
	may := 0
	eachRow(fitting(), nil, 5, func(l row) {
		asSaid(t, of(l))
		if tree.May(of(l)) == api.OK {
			may++
		}
	})
	if may < 20 {
		t.Errorf("only %d of all rows may be", may)
	}
}

// fitting are nodes that may stand in a row of five, or nearly.
func fitting() row {
	choice := row{{Kind: api.One}, {Kind: api.One, Size: 1}}
	for size := range 5 {
		choice = append(choice, api.Node{Kind: api.Rep, Size: size, Lo: 2, Hi: 3}, api.Node{Kind: api.Alt, Size: size})
	}
	return choice
}

// eachRow does something with all rows of some more nodes of a choice, behind others.
func eachRow(choice, ahead row, more int, do func(l row)) {
	do(ahead)
	for i := 0; more > 0 && i < len(choice); i++ {
		eachRow(choice, append(ahead[:len(ahead):len(ahead)], choice[i]), more-1, do)
	}
}

// spoil is a pattern with some things changed in it by noise.
func spoil(p api.Pattern, seed uint64) api.Pattern {
	p = copied(p)
	for _, c := range noise(seed, int(seed%4)) {
		n := &p.Nodes[c>>8%uint64(len(p.Nodes))]
		how := int(c >> 40 % 20)
		switch c % 9 {
		case 0:
			n.Size += how%5 - 2
		case 1:
			n.Kind = uint8(how % 6)
		case 2:
			n.Lo = uint8(how % 10)
		case 3:
			n.Hi = uint8(how % 10)
		case 4:
			n.Guarded = !n.Guarded
		case 5:
			n.Pred = append(questions(), wrongQuestions()...)[how%18]
		case 6:
			n.Guard = append(questions(), wrongQuestions()...)[how%18]
		case 7:
			p.Window = []uint64{0, 1, 5, mostWindow, mostWindow + 1}[how%5]
		case 8:
			p.Nodes = append(p.Nodes[:len(p.Nodes)-1:len(p.Nodes)], p.Nodes[how%len(p.Nodes):]...)
		}
	}
	return p
}

func TestAnyPatterns(t *testing.T) {
	told := map[api.Errno]int{}
	for seed := range uint64(20000) {
		p := spoil(api.Pattern{Nodes: grown(seed, int(1+seed/4%34)), Window: 1 + seed}, seed)
		asSaid(t, p)
		partsAsSaid(t, p.Nodes)
		told[tree.May(p)]++
	}
	for _, errno := range []api.Errno{api.OK, api.ErrMany, api.ErrForm, api.ErrArg, api.ErrDeep, api.ErrRange, api.ErrLong} {
		if told[errno] < 100 {
			t.Errorf("%v came out only %d times", errno, told[errno])
		}
	}
}

// R3, R4

// What is handed in stays as it is, and isn't kept.
func TestWhatIsHandedInStays(t *testing.T) {
	for _, p := range append(patterns(), wrongPatterns()...) {
		handed := copied(p)
		tree.May(handed)
		tree.Places(handed)
		tree.Depth(handed)
		tree.Parts(handed.Nodes)
		tree.Same(handed, handed)
		tree.Own(handed)
		if !identical(handed, p) {
			t.Fatalf("%s became %s", shortPattern(p), shortPattern(handed))
		}
	}
}

// R1: any nodes are answered as the chapter says.
func FuzzAnyNodes(f *testing.F) {
	f.Add([]byte{2, 2, 0, 0, 0, 1, 0, 0, 0, 2, 1, 0, 0, 0, 2}, uint64(5))
	f.Add([]byte{20, 1, 1, 8, 9, 1, 0, 0, 0, 40}, uint64(0))
	f.Add([]byte{4, 2, 1, 5, 0, 4, 1, 1, 8, 0, 1, 0, 0, 0, 0}, uint64(1<<20))
	f.Add([]byte{3, 255, 0, 0, 0, 33, 128}, uint64(1<<20+1))
	f.Fuzz(func(t *testing.T, b []byte, window uint64) {
		all := append(append(questions(), wrongQuestions()...), api.Pred{}, api.Pred{}, api.Pred{})
		var l row
		for c := range slices.Chunk(b, 5) {
			c = append(c[:len(c):len(c)], 0, 0, 0, 0)
			n := api.Node{Kind: c[0] % 16, Size: int(int8(c[1])), Lo: c[2], Hi: c[3], Guarded: c[0]&16 != 0}
			if c[0]&32 != 0 {
				n.Guard = all[int(c[4])%len(all)]
			} else if n.Kind == api.One {
				n.Pred = all[int(c[4])%len(all)]
			}
			l = append(l, n)
		}
		p := api.Pattern{Nodes: l, Window: window}
		asSaid(t, p)
		asSaid(t, of(l))
		for at := range len(l) + 1 {
			partsAsSaid(t, l[at:])
		}
		ownAsSaid(t, p)
	})
}
