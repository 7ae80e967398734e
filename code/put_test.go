package code_test

import (
	"bytes"
	"math"
	"testing"

	"equerry/api"
	"equerry/code"
	"equerry/tree"
)

// P13.1: Put

// put is the writing of a pattern that may be.
func put(t testing.TB, p api.Pattern) []byte {
	t.Helper()
	b, errno := code.Put(p)
	if errno != api.OK {
		t.Fatalf("Put of %s = %v", short(p), errno)
	}
	return b
}

// wantPut wants a writing.
func wantPut(t *testing.T, p api.Pattern, want []byte) {
	t.Helper()
	if got, errno := code.Put(p); !bytes.Equal(got, want) || errno != api.OK {
		t.Errorf("Put of %s = %x, %v, want %x", short(p), got, errno, want)
	}
}

// wantNoPut wants an error, and nothing beside it.
func wantNoPut(t *testing.T, p api.Pattern, want api.Errno) {
	t.Helper()
	if got, errno := code.Put(p); len(got) != 0 || errno != want {
		t.Errorf("Put of %s = %x, %v, want %v", short(p), got, errno, want)
	}
}

// knownPatterns are patterns by their writings, byte by byte.
func knownPatterns() map[string]api.Pattern {
	any, first := question{api.Pred{Any: true}, []byte{1}}, questions()[4]
	return map[string]api.Pattern{
		"\x05\x01\x00\x03":                                                             within(5, one(3)).p,
		"\x01\x01\x01":                                                                 within(1, asks(any)).p,
		"\x7f\x01\x00\x00":                                                             within(127, one(0)).p,
		"\x80\x01\x01\x10\x00\x00\x07\x00":                                             within(128, asks(first)).p,
		"\x05\x02\x02\x01\x00\x01\x01\x00\x02":                                         within(5, seq(one(1), one(2))).p,
		"\x05\x03\x03\x01\x00\x01\x01\x00\x02\x01\x01":                                 within(5, alt(one(1), one(2), asks(any))).p,
		"\x05\x04\x01\x08\x01\x00\x07":                                                 within(5, rep(1, 8, one(7))).p,
		"\x05\x12\x02\x00\x09\x01\x00\x01\x01\x00\x02":                                 within(5, guarded(asked(9), seq(one(1), one(2)))).p,
		"\x05\x14\x02\x03\x01\x01\x00\x01":                                             within(5, guarded(any, rep(2, 3, one(1)))).p,
		"\x80\x80\x01\x14\x08\x08\x10\x00\x00\x07\x00\x01\x00\x01":                     within(16384, guarded(first, rep(8, 8, one(1)))).p,
		"\x80\x80\x40\x02\x02\x03\x02\x01\x00\x01\x01\x00\x02\x01\x00\x03":             within(1<<20, seq(alt(one(1), one(2)), one(3))).p,
		"\x05\x03\x02\x01\x00\x01\x12\x02\x00\x09\x04\x01\x02\x01\x00\x02\x01\x00\x03": within(5, alt(one(1), guarded(asked(9), seq(rep(1, 2, one(2)), one(3))))).p,
	}
}

func TestPutOfKnownPatterns(t *testing.T) {
	for want, p := range knownPatterns() {
		wantPut(t, p, []byte(want))
	}
}

func TestPutOfAll(t *testing.T) {
	for _, w := range patterns() {
		if errno := tree.May(w.p); errno != api.OK {
			t.Fatalf("%s may not be: %v", short(w.p), errno)
		}
		wantPut(t, w.p, w.bytes)
	}
}

// Each kind's node stands alone, in each other one, and at each place of that.
func TestPutOfEachNodeInEachOther(t *testing.T) {
	for _, q := range questions() {
		inner := []drawn{asks(q), seq(asks(q), one(1)), alt(one(1), asks(q)), rep(1, 2, asks(q)), guarded(q, seq(one(1), one(2))), guarded(q, rep(2, 3, one(1)))}
		for _, d := range inner {
			for _, e := range inner {
				for _, whole := range []drawn{d, seq(d, e), seq(d, one(1), e), alt(d, e), alt(one(3), d, e, one(4)), rep(1, 3, d), guarded(q, seq(d, e)), guarded(q, rep(3, 3, e))} {
					w := within(300, whole)
					wantPut(t, w.p, w.bytes)
				}
			}
		}
	}
}

func TestPutOfHowManyParts(t *testing.T) {
	for n := 2; n <= 31; n++ {
		for _, d := range []drawn{seq(ones(n)...), alt(ones(n)...), guarded(asked(9), seq(ones(n)...))} {
			w := within(5, d)
			wantPut(t, w.p, w.bytes)
		}
	}
}

func TestPutOfLoAndHi(t *testing.T) {
	for hi := uint8(1); hi <= 8; hi++ {
		for lo := uint8(1); lo <= hi; lo++ {
			for _, d := range []drawn{rep(lo, hi, one(1)), guarded(asked(9), rep(lo, hi, one(1)))} {
				w := within(5, d)
				wantPut(t, w.p, w.bytes)
			}
		}
	}
}

func TestPutOfWindows(t *testing.T) {
	for size, all := range map[int][]uint64{1: {1, 2, 5, 127}, 2: {128, 129, 300, 16383}, 3: {16384, 16385, 1<<20 - 1, 1 << 20}} {
		for _, n := range all {
			w := within(n, one(3))
			wantPut(t, w.p, w.bytes)
			if b := put(t, w.p); len(b) != size+3 {
				t.Errorf("the window %d has %d bytes, want %d", n, len(b)-3, size)
			}
		}
	}
	for _, n := range []uint64{0, 1<<20 + 1, 1 << 21, 1 << 32, 1<<32 + 5, 1 << 63, math.MaxUint64} {
		wantNoPut(t, within(n, one(3)).p, api.ErrRange)
	}
}

func TestPutOfNoNode(t *testing.T) {
	wantNoPut(t, api.Pattern{}, api.ErrForm)
	wantNoPut(t, api.Pattern{Window: 5}, api.ErrForm)
	wantNoPut(t, api.Pattern{Nodes: row{}, Window: 5}, api.ErrForm)
	wantNoPut(t, api.Pattern{Nodes: make(row, 0, 40), Window: 5}, api.ErrForm)
	wantNoPut(t, api.Pattern{Nodes: make(row, 1), Window: 5}, api.ErrForm)
}

// of is a pattern of nodes.
func of(d drawn) api.Pattern { return within(5, d).p }

// unformed are patterns with a node that isn't as its kind says.
func unformed() []api.Pattern {
	all := []api.Pattern{of(rep(0, 1, one(1))), of(rep(2, 1, one(1))), of(rep(1, 9, one(1))), of(rep(255, 255, one(1))), of(seq(one(1))), of(alt(one(1))), of(seq()), of(alt())}
	all = append(all, of(guarded(asked(9), one(1))), of(guarded(asked(9), alt(one(1), one(2)))))
	pair := of(guarded(asked(9), seq(one(1), rep(1, 2, one(2)))))
	for at := range pair.Nodes {
		for _, size := range []int{-1, math.MinInt, 4, 5, 255, 256, 1 << 32, math.MaxInt} {
			all = append(all, changed(pair, at, func(n *api.Node) { n.Size = size }))
		}
		for _, kind := range []uint8{0, 5, 16, 17, 18, 20, 255} {
			all = append(all, changed(pair, at, func(n *api.Node) { n.Kind = kind }))
		}
	}
	for _, at := range []int{0, 1, 3} {
		all = append(all, changed(pair, at, func(n *api.Node) { n.Lo = 1 }), changed(pair, at, func(n *api.Node) { n.Hi = 1 }))
	}
	all = append(all, changed(pair, 0, func(n *api.Node) { n.Pred.Topic = 1 }), changed(pair, 2, func(n *api.Node) { n.Pred.Any = true }), changed(pair, 1, func(n *api.Node) { n.Guard.Topic = 1 }))
	all = append(all, changed(pair, 0, func(n *api.Node) { n.Guarded = false }), changed(pair, 2, func(n *api.Node) { n.Guard.Tests = []api.Test{has(0)} }))
	return all
}

func TestPutOfWhatIsntFormed(t *testing.T) {
	for _, p := range unformed() {
		wantNoPut(t, p, api.ErrForm)
		p.Window = 0
		wantNoPut(t, p, api.ErrForm)
	}
}

func TestPutOfTooManyNodes(t *testing.T) {
	for _, n := range []int{33, 34, 64, 255, 256, 257, 288, 1000} {
		wantNoPut(t, of(full(n)), api.ErrMany)
		wantNoPut(t, api.Pattern{Nodes: make(row, n)}, api.ErrMany)
	}
}

func TestPutOfWrongQuestions(t *testing.T) {
	for _, q := range wrongQuestions() {
		wrong := question{pred: q}
		for _, d := range []drawn{asks(wrong), seq(one(1), asks(wrong)), guarded(wrong, seq(one(1), one(2))), guarded(wrong, rep(1, 2, one(1))), alt(one(1), guarded(wrong, rep(1, 2, one(1))))} {
			wantNoPut(t, of(d), api.ErrArg)
			wantNoPut(t, within(0, d).p, api.ErrArg)
			wantNoPut(t, of(deep(9, d)), api.ErrArg)
		}
	}
}

func TestPutOfWhatIsTooDeep(t *testing.T) {
	wantNoPut(t, of(deep(9, one(1))), api.ErrDeep)
	wantNoPut(t, of(deep(31, one(1))), api.ErrDeep)
	wantNoPut(t, of(deep(32, one(1))), api.ErrMany)
	wantNoPut(t, of(deep(8, seq(one(1), one(2)))), api.ErrDeep)
	wantNoPut(t, within(0, deep(8, alt(one(1), one(2)))).p, api.ErrDeep)
	wantNoPut(t, of(seq(one(1), deep(8, one(2)))), api.ErrDeep)
}

func TestPutOfTooManyPlaces(t *testing.T) {
	for places := 2; places <= 32; places++ {
		w := within(5, times(places))
		wantPut(t, w.p, w.bytes)
	}
	for _, d := range []drawn{times(33), times(40), rep(1, 5, rep(1, 8, one(1))), rep(8, 8, rep(8, 8, rep(8, 8, one(1)))), rep(2, 3, seq(ones(11)...)), rep(3, 3, guarded(asked(9), seq(ones(11)...)))} {
		wantNoPut(t, of(d), api.ErrLong)
		wantNoPut(t, within(0, d).p, api.ErrRange)
		wantNoPut(t, within(1<<20+1, d).p, api.ErrRange)
	}
}

// faults are patterns' parts with a fault each, in the order in which they are told; the one of the window is no part.
func faults() []drawn {
	many := make([]drawn, 15)
	for i := range many {
		many[i] = rep(1, 1, one(1)) // no more places than nodes with parts
	}
	wrong := question{pred: api.Pred{Any: true, Topic: 1}}
	return []drawn{seq(many...), rep(1, 9, one(1)), asks(wrong), deep(9, one(1)), {}, rep(1, 5, rep(1, 8, one(1)))}
}

// Of all sets of faults the first one is told, in whatever order they stand.
func TestWhichOfPutsErrorsComesFirst(t *testing.T) {
	order := []api.Errno{api.ErrMany, api.ErrForm, api.ErrArg, api.ErrDeep, api.ErrRange, api.ErrLong, api.OK}
	for set := range 1 << 6 {
		parts, first, window := ones(2), 6, uint64(5)
		for i, fault := range faults() {
			if set>>i&1 == 0 {
				continue
			}
			first = min(first, i)
			if i == 4 {
				window = 0
			} else {
				parts = append(parts, fault)
			}
		}
		for range parts {
			w := within(window, seq(parts...))
			if order[first] == api.OK {
				wantPut(t, w.p, w.bytes)
			} else {
				wantNoPut(t, w.p, order[first])
			}
			parts = append(parts[1:], parts[0])
		}
	}
}

// R3, R4, R5

func TestWhatIsHandedToPutStays(t *testing.T) {
	all := unformed()
	for _, w := range patterns() {
		all = append(all, w.p)
	}
	for _, p := range all {
		handed := copied(p)
		first, errno := code.Put(handed)
		if again, f := code.Put(handed); !bytes.Equal(first, again) || errno != f {
			t.Errorf("Put of %s answers otherwise the second time", short(p))
		}
		if !identical(handed, p) {
			t.Errorf("Put changes %s to %s", short(p), short(handed))
		}
	}
}

// What is put stays, as the pattern and another answer are written over.
func TestWhatIsPutLiesInNewMemory(t *testing.T) {
	for _, w := range patterns() {
		handed := copied(w.p)
		one, two := put(t, handed), put(t, handed)
		for i := range handed.Nodes {
			for _, tests := range [][]api.Test{handed.Nodes[i].Pred.Tests, handed.Nodes[i].Guard.Tests} {
				for k := range tests {
					tests[k] = test(9, api.Eq, text("later"))
				}
			}
			handed.Nodes[i] = api.Node{Kind: 9, Size: 9}
		}
		for i := range two {
			two[i] = 0xee
		}
		if !bytes.Equal(one, w.bytes) {
			t.Errorf("the writing of %s became %x", short(w.p), one)
		}
	}
}

func TestListsWithoutTestsAreNone(t *testing.T) {
	for _, w := range patterns() {
		p := copied(w.p)
		for i, n := range p.Nodes {
			if len(n.Pred.Tests) == 0 {
				p.Nodes[i].Pred.Tests = []api.Test{}
			}
			if len(n.Guard.Tests) == 0 {
				p.Nodes[i].Guard.Tests = make([]api.Test, 0, 4)
			}
		}
		wantPut(t, p, w.bytes)
	}
}
