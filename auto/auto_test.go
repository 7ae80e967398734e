package auto_test

import (
	"math"
	"slices"
	"testing"

	"equerry/api"
	"equerry/auto"
	"equerry/tree"
)

// compiled is the automaton of what has one.
func compiled(t *testing.T, p api.Pattern) api.Auto {
	t.Helper()
	a, errno := auto.Compile(p)
	if errno != api.OK {
		t.Fatalf("Compile of %s = %v", told(p), errno)
	}
	return a
}

// wantAuto wants of a pattern an automaton.
func wantAuto(t *testing.T, p api.Pattern, want api.Auto) {
	t.Helper()
	a, errno := auto.Compile(p)
	if errno != api.OK || !sameAuto(a, want) {
		t.Errorf("Compile of %s = %s, %v, want %s", told(p), toldAuto(a), errno, toldAuto(want))
	}
}

// wantNone wants of a pattern an error, and no automaton.
func wantNone(t *testing.T, p api.Pattern, want api.Errno) {
	t.Helper()
	a, errno := auto.Compile(p)
	if errno != want || len(a.Preds) != 0 || len(a.Edges) != 0 || a.First != 0 || a.Last != 0 {
		t.Errorf("Compile of %s = %s, %v, want %v", told(p), toldAuto(a), errno, want)
	}
}

// to are edges without a guard, from a place to others.
func to(from uint8, places ...uint8) []api.Edge {
	var all []api.Edge
	for _, place := range places {
		all = append(all, api.Edge{From: from, To: place})
	}
	return all
}

// by are edges guarded by a topic, from a place to others.
func by(topic, from uint8, places ...uint8) []api.Edge {
	all := to(from, places...)
	for i := range all {
		all[i].Guarded, all[i].Guard = true, asked(topic)
	}
	return all
}

// known is a node's pattern, and what its automaton is: the topics that its places ask, its first and last places as bits, its edges.
type known struct {
	l           nodes
	topics      []uint8
	first, last uint32
	edges       [][]api.Edge
}

// wantKnown wants known automata, whatever the window is.
func wantKnown(t *testing.T, all []known) {
	t.Helper()
	for _, c := range all {
		want := api.Auto{First: c.first, Last: c.last, Edges: slices.Concat(c.edges...)}
		for _, topic := range c.topics {
			want.Preds = append(want.Preds, asked(topic))
		}
		for _, window := range []uint64{1, 2, 1000, mostWindow - 1, mostWindow} {
			wantAuto(t, within(window, c.l), want)
		}
	}
}

// topicsOf are some topics.
func topicsOf(all ...uint8) []uint8 { return all }

// edgesOf are some edges.
func edgesOf(all ...[]api.Edge) [][]api.Edge { return all }

// P14.1: places, First, Last and Edges

func TestOneAlone(t *testing.T) {
	wantKnown(t, []known{
		{one(0), topicsOf(0), 1, 1, nil},
		{one(1), topicsOf(1), 1, 1, nil},
		{one(255), topicsOf(255), 1, 1, nil},
	})
	for _, question := range questions() {
		wantAuto(t, within(1, asks(question)), api.Auto{Preds: []api.Pred{question}, First: 1, Last: 1})
	}
}

func TestSeqs(t *testing.T) {
	wantKnown(t, []known{
		{seq(one(1), one(2)), topicsOf(1, 2), 1, 2, edgesOf(to(0, 1))},
		{seq(one(2), one(1)), topicsOf(2, 1), 1, 2, edgesOf(to(0, 1))},
		{seq(one(1), one(2), one(3), one(4)), topicsOf(1, 2, 3, 4), 1, 8, edgesOf(to(0, 1), to(1, 2), to(2, 3))},
		{seq(seq(one(1), one(2)), one(3)), topicsOf(1, 2, 3), 1, 4, edgesOf(to(0, 1), to(1, 2))},
		{seq(one(1), seq(one(2), one(3))), topicsOf(1, 2, 3), 1, 4, edgesOf(to(0, 1), to(1, 2))},
		{seq(seq(one(1), one(2)), seq(one(3), one(4))), topicsOf(1, 2, 3, 4), 1, 8, edgesOf(to(0, 1), to(1, 2), to(2, 3))},
	})
}

func TestAlts(t *testing.T) {
	wantKnown(t, []known{
		{alt(one(1), one(2)), topicsOf(1, 2), 3, 3, nil},
		{alt(one(1), one(1), one(1)), topicsOf(1, 1, 1), 7, 7, nil},
		{alt(alt(one(1), one(2)), one(3)), topicsOf(1, 2, 3), 7, 7, nil},
		{alt(seq(one(1), one(2)), one(3)), topicsOf(1, 2, 3), 0b101, 0b110, edgesOf(to(0, 1))},
		{alt(one(1), seq(one(2), one(3))), topicsOf(1, 2, 3), 0b011, 0b101, edgesOf(to(1, 2))},
		{alt(seq(one(1), one(2)), seq(one(3), one(4)), one(5)), topicsOf(1, 2, 3, 4, 5), 0b10101, 0b11010, edgesOf(to(0, 1), to(2, 3))},
	})
}

// An Alt at the front of a Seq, at its end, and between parts.
func TestAltsWithinSeqs(t *testing.T) {
	either := alt(one(2), one(3))
	wantKnown(t, []known{
		{seq(either, one(1)), topicsOf(2, 3, 1), 0b011, 0b100, edgesOf(to(0, 2), to(1, 2))},
		{seq(one(1), either), topicsOf(1, 2, 3), 0b001, 0b110, edgesOf(to(0, 1, 2))},
		{seq(one(1), either, one(4)), topicsOf(1, 2, 3, 4), 0b0001, 0b1000, edgesOf(to(0, 1, 2), to(1, 3), to(2, 3))},
		{seq(either, either), topicsOf(2, 3, 2, 3), 0b0011, 0b1100, edgesOf(to(0, 2, 3), to(1, 2, 3))},
		{seq(either, one(1), either), topicsOf(2, 3, 1, 2, 3), 0b00011, 0b11000, edgesOf(to(0, 2), to(1, 2), to(2, 3, 4))},
		{seq(alt(seq(one(1), one(2)), one(3)), one(4)), topicsOf(1, 2, 3, 4), 0b0101, 0b1000, edgesOf(to(0, 1), to(1, 3), to(2, 3))},
		{seq(one(4), alt(one(3), seq(one(1), one(2)))), topicsOf(4, 3, 1, 2), 0b0001, 0b1010, edgesOf(to(0, 1, 2), to(2, 3))},
		{seq(one(1), alt(seq(one(2), one(3)), seq(one(4), one(5))), one(6)), topicsOf(1, 2, 3, 4, 5, 6), 1, 32, edgesOf(to(0, 1, 3), to(1, 2), to(2, 5), to(3, 4), to(4, 5))},
	})
}

func TestRepsOfAOne(t *testing.T) {
	for hi := uint8(1); hi <= 8; hi++ {
		for lo := uint8(1); lo <= hi; lo++ {
			c := known{l: rep(lo, hi, one(3)), first: 1}
			for k := uint8(1); k <= hi; k++ {
				c.topics = append(c.topics, 3)
				if k >= lo {
					c.last += 1 << (k - 1)
				}
				if k > 1 {
					c.edges = append(c.edges, to(k-2, k-1))
				}
			}
			wantKnown(t, []known{c})
		}
	}
}

func TestReps(t *testing.T) {
	pair, either := seq(one(1), one(2)), alt(one(1), one(2))
	wantKnown(t, []known{
		{rep(1, 1, one(1)), topicsOf(1), 1, 1, nil},
		{rep(5, 8, one(1)), topicsOf(1, 1, 1, 1, 1, 1, 1, 1), 1, 0xf0, edgesOf(to(0, 1), to(1, 2), to(2, 3), to(3, 4), to(4, 5), to(5, 6), to(6, 7))},
		{rep(1, 1, pair), topicsOf(1, 2), 0b01, 0b10, edgesOf(to(0, 1))},
		{rep(1, 2, pair), topicsOf(1, 2, 1, 2), 0b0001, 0b1010, edgesOf(to(0, 1), to(1, 2), to(2, 3))},
		{rep(2, 2, pair), topicsOf(1, 2, 1, 2), 0b0001, 0b1000, edgesOf(to(0, 1), to(1, 2), to(2, 3))},
		{rep(2, 3, pair), topicsOf(1, 2, 1, 2, 1, 2), 0b000001, 0b101000, edgesOf(to(0, 1), to(1, 2), to(2, 3), to(3, 4), to(4, 5))},
		{rep(1, 1, either), topicsOf(1, 2), 3, 3, nil},
		{rep(1, 2, either), topicsOf(1, 2, 1, 2), 0b0011, 0b1111, edgesOf(to(0, 2, 3), to(1, 2, 3))},
		{rep(2, 2, either), topicsOf(1, 2, 1, 2), 0b0011, 0b1100, edgesOf(to(0, 2, 3), to(1, 2, 3))},
		{rep(1, 2, alt(pair, one(3))), topicsOf(1, 2, 3, 1, 2, 3), 0b000101, 0b110110, edgesOf(to(0, 1), to(1, 3, 5), to(2, 3, 5), to(3, 4))},
		{rep(2, 2, alt(one(3), pair)), topicsOf(3, 1, 2, 3, 1, 2), 0b000011, 0b101000, edgesOf(to(0, 3, 4), to(1, 2), to(2, 3, 4), to(4, 5))},
	})
}

func TestRepsWithinReps(t *testing.T) {
	wantKnown(t, []known{
		{rep(1, 1, rep(1, 1, one(1))), topicsOf(1), 1, 1, nil},
		{rep(1, 1, rep(1, 2, one(1))), topicsOf(1, 1), 1, 3, edgesOf(to(0, 1))},
		{rep(1, 2, rep(1, 1, one(1))), topicsOf(1, 1), 1, 3, edgesOf(to(0, 1))},
		{rep(1, 2, rep(1, 2, one(1))), topicsOf(1, 1, 1, 1), 1, 0b1111, edgesOf(to(0, 1, 2), to(1, 2), to(2, 3))},
		{rep(2, 2, rep(1, 2, one(1))), topicsOf(1, 1, 1, 1), 1, 0b1100, edgesOf(to(0, 1, 2), to(1, 2), to(2, 3))},
		{rep(1, 2, rep(2, 2, one(1))), topicsOf(1, 1, 1, 1), 1, 0b1010, edgesOf(to(0, 1), to(1, 2), to(2, 3))},
		{rep(2, 2, rep(2, 2, one(1))), topicsOf(1, 1, 1, 1), 1, 0b1000, edgesOf(to(0, 1), to(1, 2), to(2, 3))},
		{rep(2, 3, rep(1, 2, one(1))), topicsOf(1, 1, 1, 1, 1, 1), 1, 0b111100, edgesOf(to(0, 1, 2), to(1, 2), to(2, 3, 4), to(3, 4), to(4, 5))},
		{rep(1, 2, rep(2, 3, one(1))), topicsOf(1, 1, 1, 1, 1, 1), 1, 0b110110, edgesOf(to(0, 1), to(1, 2, 3), to(2, 3), to(3, 4), to(4, 5))},
	})
}

func TestRepsWithinSeqsAndAlts(t *testing.T) {
	wantKnown(t, []known{
		{seq(rep(1, 2, one(1)), one(2)), topicsOf(1, 1, 2), 1, 0b100, edgesOf(to(0, 1, 2), to(1, 2))},
		{seq(rep(2, 2, one(1)), one(2)), topicsOf(1, 1, 2), 1, 0b100, edgesOf(to(0, 1), to(1, 2))},
		{seq(one(2), rep(1, 2, one(1))), topicsOf(2, 1, 1), 1, 0b110, edgesOf(to(0, 1), to(1, 2))},
		{seq(one(1), rep(2, 3, one(2)), one(3)), topicsOf(1, 2, 2, 2, 3), 1, 16, edgesOf(to(0, 1), to(1, 2), to(2, 3, 4), to(3, 4))},
		{seq(rep(1, 2, one(1)), rep(1, 2, one(2))), topicsOf(1, 1, 2, 2), 1, 0b1100, edgesOf(to(0, 1, 2), to(1, 2), to(2, 3))},
		{alt(rep(1, 2, one(1)), seq(one(2), one(3))), topicsOf(1, 1, 2, 3), 0b0101, 0b1011, edgesOf(to(0, 1), to(2, 3))},
		{seq(rep(1, 3, alt(one(1), one(2))), one(3)), topicsOf(1, 2, 1, 2, 1, 2, 3), 3, 64, edgesOf(to(0, 2, 3, 6), to(1, 2, 3, 6), to(2, 4, 5, 6), to(3, 4, 5, 6), to(4, 6), to(5, 6))},
	})
}

// P14.1: guards

func TestGuards(t *testing.T) {
	pair := seq(one(1), one(2))
	wantKnown(t, []known{
		{not(9, pair), topicsOf(1, 2), 1, 2, edgesOf(by(9, 0, 1))},
		{not(0, pair), topicsOf(1, 2), 1, 2, edgesOf(by(0, 0, 1))},
		{not(9, seq(one(1), one(2), one(3))), topicsOf(1, 2, 3), 1, 4, edgesOf(by(9, 0, 1), by(9, 1, 2))},
		{not(9, rep(2, 3, one(1))), topicsOf(1, 1, 1), 1, 6, edgesOf(by(9, 0, 1), by(9, 1, 2))},
		{not(9, rep(1, 1, one(1))), topicsOf(1), 1, 1, nil},
		{not(9, seq(alt(one(1), one(2)), alt(one(3), one(4)))), topicsOf(1, 2, 3, 4), 3, 12, edgesOf(by(9, 0, 2, 3), by(9, 1, 2, 3))},
		{not(9, rep(1, 2, alt(one(1), one(2)))), topicsOf(1, 2, 1, 2), 3, 15, edgesOf(by(9, 0, 2, 3), by(9, 1, 2, 3))},
	})
}

// An edge has the guard of the node that it comes from, and of no other one.
func TestGuardsWithinGuards(t *testing.T) {
	pair := seq(one(1), one(2))
	wantKnown(t, []known{
		{not(9, seq(pair, one(3))), topicsOf(1, 2, 3), 1, 4, edgesOf(to(0, 1), by(9, 1, 2))},
		{seq(not(9, pair), one(3)), topicsOf(1, 2, 3), 1, 4, edgesOf(by(9, 0, 1), to(1, 2))},
		{not(8, seq(not(9, pair), one(3))), topicsOf(1, 2, 3), 1, 4, edgesOf(by(9, 0, 1), by(8, 1, 2))},
		{not(8, seq(one(3), not(9, pair))), topicsOf(3, 1, 2), 1, 4, edgesOf(by(8, 0, 1), by(9, 1, 2))},
		{seq(not(8, pair), not(9, pair)), topicsOf(1, 2, 1, 2), 1, 8, edgesOf(by(8, 0, 1), to(1, 2), by(9, 2, 3))},
		{not(9, rep(2, 2, pair)), topicsOf(1, 2, 1, 2), 1, 8, edgesOf(to(0, 1), by(9, 1, 2), to(2, 3))},
		{rep(2, 2, not(9, pair)), topicsOf(1, 2, 1, 2), 1, 8, edgesOf(by(9, 0, 1), to(1, 2), by(9, 2, 3))},
		{not(8, rep(1, 2, not(9, pair))), topicsOf(1, 2, 1, 2), 1, 10, edgesOf(by(9, 0, 1), by(8, 1, 2), by(9, 2, 3))},
		{not(8, seq(not(9, rep(1, 2, one(1))), one(2))), topicsOf(1, 1, 2), 1, 4, edgesOf(by(9, 0, 1), by(8, 0, 2), by(8, 1, 2))},
		{seq(not(9, rep(1, 2, one(1))), one(2)), topicsOf(1, 1, 2), 1, 4, edgesOf(by(9, 0, 1), to(0, 2), to(1, 2))},
		{not(8, seq(rep(1, 2, one(1)), one(2))), topicsOf(1, 1, 2), 1, 4, edgesOf(to(0, 1), by(8, 0, 2), by(8, 1, 2))},
		{not(7, rep(1, 2, not(8, rep(1, 2, one(1))))), topicsOf(1, 1, 1, 1), 1, 15, edgesOf(by(8, 0, 1), by(7, 0, 2), by(7, 1, 2), by(8, 2, 3))},
		{not(7, rep(1, 2, rep(1, 2, one(1)))), topicsOf(1, 1, 1, 1), 1, 15, edgesOf(to(0, 1), by(7, 0, 2), by(7, 1, 2), to(2, 3))},
		{not(9, seq(alt(one(1), not(8, seq(one(2), one(3)))), one(4))), topicsOf(1, 2, 3, 4), 3, 8, edgesOf(by(9, 0, 3), by(8, 1, 2), by(9, 2, 3))},
		{alt(not(8, pair), not(9, rep(1, 2, one(3))), pair), topicsOf(1, 2, 3, 3, 1, 2), 0b010101, 0b101110, edgesOf(by(8, 0, 1), by(9, 2, 3), to(4, 5))},
	})
}

// Questions with tests stand whole at each place of a One, and guards with tests at each edge of a node.
func TestQuestionsAsTheyStand(t *testing.T) {
	full := asked(5, has(0), above(1, -3), begins(255, "ab"), api.Test{Op: api.Eq, Value: api.Value{Kind: api.Real, Real: math.NaN()}})
	guard := ofAny(above(7, 8), has(9))
	wantAuto(t, of(guarded(guard, rep(1, 3, asks(full)))), api.Auto{
		Preds: []api.Pred{full, full, full}, First: 1, Last: 7,
		Edges: []api.Edge{{From: 0, To: 1, Guarded: true, Guard: guard}, {From: 1, To: 2, Guarded: true, Guard: guard}},
	})
	wantAuto(t, of(guarded(full, seq(asks(guard), each(), asks(full)))), api.Auto{
		Preds: []api.Pred{guard, ofAny(), full}, First: 1, Last: 4,
		Edges: []api.Edge{{From: 0, To: 1, Guarded: true, Guard: full}, {From: 1, To: 2, Guarded: true, Guard: full}},
	})
	wantAuto(t, of(guarded(ofAny(), seq(each(), each()))), api.Auto{
		Preds: []api.Pred{ofAny(), ofAny()}, First: 1, Last: 2,
		Edges: []api.Edge{{From: 0, To: 1, Guarded: true, Guard: ofAny()}},
	})
}

// P14.1: a plain reading

// asSaid wants of a pattern that may be what the chapter says, and tells whether it has an automaton.
func asSaid(t *testing.T, p api.Pattern) bool {
	t.Helper()
	want := plainAuto(p)
	if len(want.Edges) > mostEdges {
		wantNone(t, p, api.ErrMany)
		return false
	}
	wantAuto(t, p, want)
	return true
}

func TestAllShortPatterns(t *testing.T) {
	for n := 1; n <= 6; n++ {
		for k, shape := range shapes(n) {
			if p := within(uint64(1+k), telling(shape)); tree.May(p) == api.OK {
				asSaid(t, p)
			}
		}
	}
}

func TestGrownPatterns(t *testing.T) {
	good, many := 0, 0
	for _, p := range grownPatterns(20000) {
		if asSaid(t, p) {
			good++
		} else {
			many++
		}
		asSaid(t, within(p.Window, telling(p.Nodes)))
	}
	if good < 5000 || many < 100 {
		t.Errorf("%d automata and %d with too many edges are too few to tell", good, many)
	}
}

// Edges rise, places are as many as layer 11 says, and nothing points at a place that isn't there.
func TestEdgesRise(t *testing.T) {
	for _, p := range grownPatterns(5000) {
		a, errno := auto.Compile(p)
		if errno != api.OK {
			continue
		}
		n := tree.Places(p)
		if len(a.Preds) != n || a.First == 0 || a.Last == 0 || uint64(a.First)>>n != 0 || uint64(a.Last)>>n != 0 {
			t.Fatalf("Compile of %s with %d places = %s", told(p), n, toldAuto(a))
		}
		at := -1
		for _, e := range a.Edges {
			next := int(e.From)<<8 + int(e.To)
			if next <= at || e.From >= e.To || int(e.To) >= n || !e.Guarded && (e.Guard.Any || e.Guard.Topic != 0 || len(e.Guard.Tests) > 0) {
				t.Fatalf("Compile of %s = %s", told(p), toldAuto(a))
			}
			at = next
		}
	}
}
