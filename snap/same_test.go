package snap_test

import (
	"math"
	"slices"
	"testing"

	"equerry/snap"
)

// P16.1: Same

// wantSame wants of two states, either way round, what they are.
func wantSame(t *testing.T, a, b state, want bool) {
	t.Helper()
	if got, back := snap.Same(a, b), snap.Same(b, a); got != want || back != want {
		t.Errorf("Same of %s and %s = %v, and %v the other way round, want %v", short(a), short(b), got, back, want)
	}
}

// anyStates are states of all shapes, written or not.
func anyStates() []state {
	all := append(bases(), unwritten()[:20]...)
	all = append(all, state{FailedAt: 4}, state{Failed: true, FailedAt: 4, Runs: row(3)}, on(most, most, row(70)...), on(1, 1, run(5, 5, 0), run(4, 4, most)))
	return append(all, on(1, 1, run(5, 5, 1), run(5, 5, 1)), on(1, 1, make(list, 65)...), state{Next: most, Last: most, Failed: true, FailedAt: most, Runs: list{run(most, most, most)}})
}

func TestSameOfAStateAndItself(t *testing.T) {
	for _, s := range append(anyStates(), written()...) {
		wantSame(t, s, s, true)
		wantSame(t, s, changed(s, func(s *state) {}), true)
	}
}

// others are numbers that aren't one: next to it, of other low or high bits, turned round.
func others(n uint64) []uint64 {
	return []uint64{n + 1, n - 1, n ^ 1<<8, n ^ 1<<32, n ^ 1<<63, ^n, math.MaxUint32 ^ n}
}

// Each field alone is other.
func TestSameOfOtherFields(t *testing.T) {
	for _, s := range anyStates() {
		wantSame(t, s, changed(s, func(s *state) { s.Failed = !s.Failed }), false)
		for i := range others(0) {
			wantSame(t, s, changed(s, func(s *state) { s.Next = others(s.Next)[i] }), false)
			wantSame(t, s, changed(s, func(s *state) { s.Last = others(s.Last)[i] }), false)
			wantSame(t, s, changed(s, func(s *state) { s.FailedAt = others(s.FailedAt)[i] }), false)
		}
		if s.Next != s.Last {
			wantSame(t, s, changed(s, func(s *state) { s.Next, s.Last = s.Last, s.Next }), false)
		}
		if s.Next != s.FailedAt {
			wantSame(t, s, changed(s, func(s *state) { s.Next, s.FailedAt = s.FailedAt, s.Next }), false)
		}
	}
}

// Each field of each run alone is other.
func TestSameOfOtherRuns(t *testing.T) {
	for _, s := range anyStates() {
		for at, r := range s.Runs {
			for i := range others(0) {
				wantSame(t, s, changed(s, func(s *state) { s.Runs[at].Start = others(r.Start)[i] }), false)
				wantSame(t, s, changed(s, func(s *state) { s.Runs[at].At = others(r.At)[i] }), false)
				wantSame(t, s, changed(s, func(s *state) { s.Runs[at].Set = others(r.Set)[i] }), false)
			}
			turned := run(r.At, r.Start, r.Set)
			wantSame(t, s, changed(s, func(s *state) { s.Runs[at] = turned }), turned == r)
			turned = run(r.Start, r.Set, r.At)
			wantSame(t, s, changed(s, func(s *state) { s.Runs[at] = turned }), turned == r)
		}
	}
}

// Lists that are shorter, longer, or the other way round.
func TestSameOfOtherLists(t *testing.T) {
	for _, s := range anyStates() {
		for n := range s.Runs {
			wantSame(t, s, changed(s, func(s *state) { s.Runs = s.Runs[:n] }), false)
			wantSame(t, s, changed(s, func(s *state) { s.Runs = slices.Delete(s.Runs, n, n+1) }), false)
			wantSame(t, s, changed(s, func(s *state) { s.Runs = slices.Insert(s.Runs, n, s.Runs[n]) }), false)
		}
		wantSame(t, s, changed(s, func(s *state) { s.Runs = append(s.Runs, run(0, 0, 0)) }), false)
		if n := len(s.Runs); n > 1 && s.Runs[0] != s.Runs[n-1] {
			wantSame(t, s, changed(s, func(s *state) { slices.Reverse(s.Runs) }), false)
		}
	}
}

func TestSameOfNilAndEmptyLists(t *testing.T) {
	empties := []list{nil, {}, make(list, 0, 70), row(5)[:0]}
	for _, s := range []state{{}, on(5, 9), failed(5, 9, 4), {Next: 5, FailedAt: 4}} {
		for _, a := range empties {
			for _, b := range empties {
				one, two := s, s
				one.Runs, two.Runs = a, b
				wantSame(t, one, two, true)
			}
			one, two := s, s
			one.Runs, two.Runs = a, row(1)
			wantSame(t, one, two, false)
		}
	}
}

// What is behind the length of a list doesn't count.
func TestSameOfListsWithOtherRoom(t *testing.T) {
	one, two := row(8), row(8)
	for i := 4; i < 8; i++ {
		two[i] = run(9, 9, 9)
	}
	wantSame(t, on(5, 9, one[:4]...), on(5, 9, two[:4]...), true)
	wantSame(t, on(5, 9, one[:5]...), on(5, 9, two[:5]...), false)
}

// Of all pairs only those are the same whose fields are.
func TestSameOfAllPairs(t *testing.T) {
	all := written()
	for i := 0; i < len(all); i += 11 {
		for k := 0; k < len(all); k += 7 {
			wantSame(t, all[i], all[k], identical(all[i], all[k]))
		}
	}
}

// R3, R5

func TestWhatIsHandedToSameStays(t *testing.T) {
	for _, s := range anyStates() {
		a, b := changed(s, func(s *state) {}), changed(s, func(s *state) { s.Runs = append(s.Runs, run(1, 1, 1)) })
		for range 2 {
			wantSame(t, a, b, false)
		}
		if !identical(a, s) || !identical(b, changed(s, func(s *state) { s.Runs = append(s.Runs, run(1, 1, 1)) })) {
			t.Errorf("Same changes %s", short(s))
		}
	}
}
