package runs_test

import (
	"math"
	"slices"
	"testing"

	"equerry/api"
	"equerry/auto"
	"equerry/runs"
	"equerry/tree"
)

// P15.1: Restore, State

// threeOf is a pattern with two edges, and a window of ten ticks.
func threeOf() api.Pattern { return within(10, not(9, seq(one(1), one(2), one(3)))) }

// midway is a state of it.
func midway() api.RunState {
	return api.RunState{Next: 7, Last: 100, Runs: []api.Run{{Start: 2, At: 90, Set: 1}, {Start: 4, At: 95, Set: 3}, {Start: 6, At: 100, Set: 2}}}
}

// fellAt is a state of an engine that failed.
func fellAt() api.RunState { return api.RunState{Next: 7, Last: 100, Failed: true, FailedAt: 6} }

// changed is a state, changed.
func changed(s api.RunState, change func(s *api.RunState)) api.RunState {
	s = copiedState(s)
	change(&s)
	return s
}

// wantMayBe wants a state to be one of a pattern, and the engine to be there.
func wantMayBe(t *testing.T, p api.Pattern, s api.RunState) {
	t.Helper()
	h := restored(t, p, s)
	if got := h.e.State(); !sameState(got, s) {
		t.Errorf("State = %+v, want %+v", got, s)
	}
}

// wantMayNotBe wants a state to be none of a pattern.
func wantMayNotBe(t *testing.T, p api.Pattern, s api.RunState) {
	t.Helper()
	if e, errno := runs.Restore(p, s); e != nil || errno != api.ErrArg {
		t.Errorf("Restore of %s, %+v = %v, %v", told(p), s, e, errno)
	}
}

func TestStatesThatMayBe(t *testing.T) {
	for _, l := range []nodes{one(1), pair(), wide(8, 8)} {
		for _, s := range []api.RunState{
			{}, {Next: 1}, {Next: mostIndex}, {Last: mostTime}, {Next: mostIndex, Last: mostTime}, {Next: 5, Last: 7, Runs: []api.Run{}},
			{Next: 1, Failed: true}, {Next: mostIndex, Last: mostTime, Failed: true, FailedAt: mostIndex - 1},
			{Next: mostIndex, Failed: true}, {Next: 9, Last: 3, Failed: true, FailedAt: 3, Runs: []api.Run{}}, fellAt(),
		} {
			wantMayBe(t, of(l), s)
		}
	}
	wantMayBe(t, threeOf(), midway())
	wantMayBe(t, threeOf(), changed(midway(), func(s *api.RunState) { s.Runs = s.Runs[1:] }))
	wantMayBe(t, threeOf(), changed(midway(), func(s *api.RunState) { s.Runs = s.Runs[:1] }))
}

func TestNumberOfAState(t *testing.T) {
	for _, next := range []uint64{7, 8, 1 << 32, mostIndex - 1, mostIndex} {
		wantMayBe(t, threeOf(), changed(midway(), func(s *api.RunState) { s.Next = next }))
		wantMayBe(t, threeOf(), changed(fellAt(), func(s *api.RunState) { s.Next = next }))
	}
	for _, next := range []uint64{mostIndex + 1, mostIndex + 2, 2 * mostIndex, 1 << 63, math.MaxUint64} {
		wantMayNotBe(t, threeOf(), changed(midway(), func(s *api.RunState) { s.Next = next }))
		wantMayNotBe(t, threeOf(), changed(midway(), func(s *api.RunState) { s.Next, s.Runs = next, nil }))
		wantMayNotBe(t, threeOf(), changed(fellAt(), func(s *api.RunState) { s.Next = next }))
	}
}

func TestTimeOfAState(t *testing.T) {
	for _, last := range []uint64{10, 11, 100, 1 << 32, mostTime - 1, mostTime} {
		wantMayBe(t, threeOf(), latest(midway(), last))
		wantMayBe(t, threeOf(), latest(fellAt(), last))
	}
	for _, last := range []uint64{mostTime + 1, mostTime + 2, 2 * mostTime, 1 << 63, math.MaxUint64} {
		wantMayNotBe(t, threeOf(), latest(midway(), last))
		wantMayNotBe(t, threeOf(), changed(latest(midway(), last), func(s *api.RunState) { s.Runs = nil }))
		wantMayNotBe(t, threeOf(), latest(fellAt(), last))
	}
}

// latest is a state whose Last is another one, and whose runs are as far ahead of it as they were.
func latest(s api.RunState, last uint64) api.RunState {
	return changed(s, func(s *api.RunState) {
		for i := range s.Runs {
			s.Runs[i].At += last - s.Last
		}
		s.Last = last
	})
}

// What hasn't failed has no number at which it did, and what has failed did it below Next.
func TestFailedAtOfAState(t *testing.T) {
	for _, at := range []uint64{1, 6, 7, 8, 1 << 40, 1 << 63, math.MaxUint64} {
		wantMayNotBe(t, threeOf(), changed(midway(), func(s *api.RunState) { s.FailedAt = at }))
		wantMayNotBe(t, threeOf(), changed(midway(), func(s *api.RunState) { s.FailedAt, s.Runs = at, nil }))
	}
	for at := range uint64(7) {
		wantMayBe(t, threeOf(), changed(fellAt(), func(s *api.RunState) { s.FailedAt = at }))
	}
	for _, at := range []uint64{7, 8, mostIndex, 1 << 63, math.MaxUint64} {
		wantMayNotBe(t, threeOf(), changed(fellAt(), func(s *api.RunState) { s.FailedAt = at }))
	}
	wantMayNotBe(t, threeOf(), api.RunState{Failed: true})
	wantMayNotBe(t, threeOf(), api.RunState{Next: mostIndex, Failed: true, FailedAt: mostIndex})
}

func TestRunsOfAFailedState(t *testing.T) {
	for n := 1; n <= 3; n++ {
		wantMayNotBe(t, threeOf(), changed(fellAt(), func(s *api.RunState) { s.Runs = midway().Runs[:n] }))
	}
}

// crowd is a state with n runs, as each of which may be.
func crowd(n int) api.RunState {
	s := api.RunState{Next: 1000, Last: 100}
	for i := range n {
		s.Runs = append(s.Runs, api.Run{Start: uint64(i), At: 95, Set: 1})
	}
	return s
}

func TestHowManyRunsOfAState(t *testing.T) {
	for _, n := range []int{0, 1, 63, 64} {
		wantMayBe(t, threeOf(), crowd(n))
	}
	for _, n := range []int{65, 66, 128, 1000} {
		wantMayNotBe(t, threeOf(), crowd(n))
	}
}

func TestStartsOfAState(t *testing.T) {
	for _, starts := range [][3]uint64{{0, 1, 2}, {0, 1, 6}, {4, 5, 6}, {0, 5, 6}} {
		wantMayBe(t, threeOf(), started(starts))
	}
	for _, starts := range [][3]uint64{
		{2, 2, 6}, {2, 4, 4}, {0, 0, 1}, {0, 0, 0}, {4, 2, 6}, {2, 6, 4}, {6, 4, 2}, {3, 4, 2}, {2, 4, 7}, {2, 7, 8}, {7, 8, 9}, {2, 4, 1 << 40},
		{2, 4, 1 << 63}, {2, 4, math.MaxUint64}, {math.MaxUint64, 4, 6}, {2, math.MaxUint64, 6},
	} {
		wantMayNotBe(t, threeOf(), started(starts))
	}
	alone := changed(midway(), func(s *api.RunState) { s.Runs = s.Runs[2:] })
	for start := range uint64(12) {
		s := changed(alone, func(s *api.RunState) { s.Runs[0].Start = start })
		if start < 7 {
			wantMayBe(t, threeOf(), s)
		} else {
			wantMayNotBe(t, threeOf(), s)
		}
	}
}

// started is a state whose runs began with some events.
func started(starts [3]uint64) api.RunState {
	return changed(midway(), func(s *api.RunState) {
		for i := range s.Runs {
			s.Runs[i].Start = starts[i]
		}
	})
}

func TestAtsOfAState(t *testing.T) {
	for _, ats := range [][3]uint64{{90, 90, 90}, {90, 90, 100}, {100, 100, 100}, {90, 100, 100}, {91, 92, 93}} {
		wantMayBe(t, threeOf(), timed(ats))
	}
	for _, ats := range [][3]uint64{
		{91, 90, 100}, {90, 96, 95}, {100, 99, 98}, {92, 93, 91}, // they fall
		{90, 95, 101}, {90, 101, 101}, {101, 101, 101}, {90, 95, 110}, {90, 95, 1 << 63}, {90, 95, math.MaxUint64}, // above Last
		{89, 95, 100}, {89, 89, 100}, {89, 89, 89}, {0, 95, 100}, {0, 0, 0}, // more than the window ahead of it
	} {
		wantMayNotBe(t, threeOf(), timed(ats))
	}
}

// A time so great that it would be within the window of Last, if there were no times above 2^64, is above Last.
func TestAtsBeyondAllTimes(t *testing.T) {
	for last := range uint64(12) {
		s := api.RunState{Next: 9, Last: last, Runs: []api.Run{{Start: 1, At: last, Set: 1}}}
		wantMayBe(t, threeOf(), s)
		for ahead := range uint64(12) {
			s.Runs[0].At = math.MaxUint64 - ahead
			wantMayNotBe(t, threeOf(), s)
		}
	}
}

// timed is a state whose runs began at some times.
func timed(ats [3]uint64) api.RunState {
	return changed(midway(), func(s *api.RunState) {
		for i := range s.Runs {
			s.Runs[i].At = ats[i]
		}
	})
}

func TestWindowOfAState(t *testing.T) {
	for _, window := range []uint64{1, 2, 10, mostWindow - 1, mostWindow} {
		for _, last := range []uint64{window, window + 1, 1 << 32, mostTime} {
			s := api.RunState{Next: 5, Last: last, Runs: []api.Run{{Start: 1, At: last - window, Set: 1}, {Start: 3, At: last, Set: 1}}}
			wantMayBe(t, within(window, pair()), s)
			wantMayBe(t, within(window, pair()), changed(s, func(s *api.RunState) { s.Runs[0].At++ }))
			if last > window {
				wantMayNotBe(t, within(window, pair()), changed(s, func(s *api.RunState) { s.Runs[0].At-- }))
			}
		}
		wantMayBe(t, within(window, pair()), api.RunState{Next: 1, Last: window / 2, Runs: []api.Run{{Set: 1}}})
	}
}

// Each run waits at an edge, and at none that there isn't, up to the last bit.
func TestSetsOfAState(t *testing.T) {
	for place := range 3 {
		set := func(n uint64) api.RunState {
			return changed(midway(), func(s *api.RunState) { s.Runs[place].Set = n })
		}
		for n := uint64(1); n <= 3; n++ {
			wantMayBe(t, threeOf(), set(n))
		}
		wantMayNotBe(t, threeOf(), set(0))
		for bit := 2; bit < 64; bit++ {
			wantMayNotBe(t, threeOf(), set(1<<bit))
			wantMayNotBe(t, threeOf(), set(1<<bit|3))
		}
		wantMayNotBe(t, threeOf(), set(math.MaxUint64))
	}
}

// A pattern may have any number of edges from none to 64.
func TestSetsByHowManyEdges(t *testing.T) {
	triples := rep(8, 8, eitherOf(3)) // 63 edges
	for _, c := range []struct {
		l     nodes
		edges int
	}{
		{one(1), 0}, {eitherOf(31), 0}, {pair(), 1}, {rep(1, 3, one(1)), 2}, {wide(4, 8), 32}, {rep(1, 8, seq(times(4, one(1))...)), 31},
		{wide(3, 11), 33}, {seq(rep(1, 2, eitherOf(7)), one(1)), 63}, {triples, 63}, {wide(7, 9), 63}, {wide(8, 8), 64}, {alt(triples, pair()), 64},
	} {
		if a, errno := auto.Compile(of(c.l)); errno != api.OK || len(a.Edges) != c.edges {
			t.Fatalf("Compile of %s has %d edges, %v", told(of(c.l)), len(a.Edges), errno)
		}
		for bit := range 64 {
			s := api.RunState{Next: 1, Runs: []api.Run{{Set: 1 << bit}}}
			if bit < c.edges {
				wantMayBe(t, of(c.l), s)
				s.Runs[0].Set = math.MaxUint64 >> (63 - bit)
				wantMayBe(t, of(c.l), s)
			} else {
				wantMayNotBe(t, of(c.l), s)
				s.Runs[0].Set |= 1
				wantMayNotBe(t, of(c.l), s)
			}
		}
	}
}

// Compile's errors are told whatever the state is, and there is no engine beside them.
func TestRestoreOfPatternsWithoutAutomaton(t *testing.T) {
	for _, c := range refusals() {
		for _, s := range []api.RunState{{}, midway(), fellAt(), crowd(65), {Next: mostIndex + 1}, {Failed: true}, {Runs: []api.Run{{}}}} {
			if e, errno := runs.Restore(c.p, s); e != nil || errno != c.want {
				t.Errorf("Restore of %s, %+v = %v, %v", told(c.p), s, e, errno)
			}
		}
	}
}

// spoilt is a state by noise, near what may be of a pattern with two edges and a window of ten ticks.
func spoilt(seed uint64) api.RunState {
	c := noise(seed, 40)
	near := func(k int, n uint64) uint64 { return n + c[k]>>9%3 - 1 }
	s := api.RunState{Next: 2 + c[0]>>8%9, Last: 10 + c[1]>>8%4}
	if c[2]>>8%8 == 0 {
		s.Failed, s.FailedAt = true, near(3, s.Next-1)
	}
	if c[2]>>12%16 == 0 {
		s.FailedAt = c[3] >> 12 % 3
	}
	start, at := c[4]>>8%2, s.Last-10+c[5]>>8%2
	for k := range c[6] >> 8 % 4 {
		i := int(7 + 8*k)
		s.Runs = append(s.Runs, api.Run{Start: start, At: at, Set: (1 + c[i]>>8%3) &^ (c[i] >> 12 % 2 & (c[i] >> 16 % 2)) << (c[i+1] >> 8 % 8 / 7)})
		start = start + 1 + c[i+2]>>8%3 - c[i+3]>>8%8/7
		at = at + c[i+4]>>8%5 - c[i+5]>>8%8/7
	}
	return s
}

// States by noise, of which about half may be, as the clauses say.
func TestSpoiltStates(t *testing.T) {
	good, bad := 0, 0
	for seed := range uint64(100000) {
		s := spoilt(seed)
		if mayPlainly(s, 10, 2) {
			good++
			wantMayBe(t, threeOf(), s)
		} else {
			bad++
			wantMayNotBe(t, threeOf(), s)
		}
	}
	if min(good, bad) < 20000 {
		t.Errorf("%d that may be and %d that may not are too few to tell", good, bad)
	}
}

// Whatever a state that may be says, the engine goes on from there by the chapter.
func TestRestoredStatesGoOn(t *testing.T) {
	for seed := range uint64(20000) {
		s := spoilt(seed)
		if !mayPlainly(s, 10, 2) {
			continue
		}
		h := restored(t, threeOf(), s)
		for _, c := range noise(seed, 6) {
			h.feed(logged(s.Last+c>>8%12-1, []uint8{1, 2, 3, 9}[c>>16%4]))
		}
	}
}

// Runs that wait at any edges, of patterns of all sorts.
func TestRestoredRunsOfAnySets(t *testing.T) {
	for k, p := range grownPatterns(3000, 40) {
		a, _ := auto.Compile(p)
		if len(a.Edges) == 0 {
			continue
		}
		s := api.RunState{Next: 50, Last: p.Window}
		for i, c := range noise(uint64(k), 2*(k%6)) {
			if set := c >> (64 - len(a.Edges)); set != 0 {
				s.Runs = append(s.Runs, api.Run{Start: uint64(4 * i), At: min(p.Window, uint64(i)), Set: set})
			}
		}
		h := restored(t, p, s)
		for _, l := range grownRow(uint64(k), 12) {
			l.At += p.Window
			h.feed(l)
		}
	}
}

// An engine that was restored with all the runs that may be fails with the next one.
func TestRestoredWithSixtyFourRuns(t *testing.T) {
	h := restored(t, threeOf(), crowd(64))
	if matches, errno := h.feed(logged(105, 1)); len(matches) != 0 || errno != api.ErrMany {
		t.Errorf("%v, %v", matches, errno)
	}
	if s := h.e.State(); !sameState(s, api.RunState{Next: 1001, Last: 105, Failed: true, FailedAt: 1000}) {
		t.Errorf("failed at %+v", s)
	}
	h = restored(t, threeOf(), crowd(64))
	h.fed(logged(106, 1)) // all windows are over
	h.waits([2]uint64{1000, 1})
	h = restored(t, threeOf(), crowd(63))
	h.fed(logged(105, 1))
	if h.e.Horizon() != 0 || len(h.e.State().Runs) != 64 {
		t.Errorf("%+v", h.e.State())
	}
}

// P15.1: Horizon

func TestHorizon(t *testing.T) {
	for _, c := range []struct {
		s    api.RunState
		want uint64
	}{
		{api.RunState{}, 0}, {api.RunState{Next: 7, Last: 3}, 7}, {api.RunState{Next: mostIndex}, mostIndex}, {fellAt(), 7}, {midway(), 2},
		{crowd(64), 0}, {changed(midway(), func(s *api.RunState) { s.Runs = s.Runs[1:] }), 4},
		{changed(midway(), func(s *api.RunState) { s.Next, s.Runs = mostIndex, s.Runs[2:] }), 6},
	} {
		h := restored(t, threeOf(), c.s)
		if got := h.e.Horizon(); got != c.want || h.e.Next() != c.s.Next {
			t.Errorf("%+v: Horizon = %d, Next = %d", c.s, got, h.e.Next())
		}
	}
}

// R3, R4, R5

// askingFields is a pattern all of whose questions and guards have tests.
func askingFields() api.Pattern {
	return within(10, guarded(asked(9, has(0)), seq(asks(asked(1, has(0))), asks(ofAny(above(0, 4))), asks(asked(3, has(0), has(1))))))
}

// fieldsOf is an event with two fields.
func fieldsOf(at uint64, topic uint8) api.Logged { return logged(at, topic, whole(5), whole(6)) }

// spoil writes into all that a pattern has.
func spoil(p api.Pattern) {
	for i := range p.Nodes {
		for _, tests := range [][]api.Test{p.Nodes[i].Pred.Tests, p.Nodes[i].Guard.Tests} {
			for k := range tests {
				tests[k] = above(7, 77)
			}
		}
	}
	clear(p.Nodes)
}

// goesOnAs wants of an engine that it is where a state says, and goes on from there by the chapter.
func goesOnAs(t *testing.T, p api.Pattern, e *runs.Engine, s api.RunState) {
	t.Helper()
	if got := e.State(); !sameState(got, s) {
		t.Fatalf("State = %+v, want %+v", got, s)
	}
	h := &held{t, p, e, plainOf(t, p, s)}
	for k, topic := range []uint8{1, 2, 3, 1, 9, 2, 3, 2, 3} {
		h.feed(fieldsOf(s.Last+uint64(k), topic))
	}
}

func TestPatternsAreNotKept(t *testing.T) {
	for _, p := range []api.Pattern{askingFields(), threeOf()} {
		own := copiedPattern(p)
		e, _ := runs.New(own, 3)
		spoil(own)
		goesOnAs(t, p, e, api.RunState{Next: 3})
		own = copiedPattern(p)
		e, _ = runs.Restore(own, midway())
		spoil(own)
		goesOnAs(t, p, e, midway())
	}
}

func TestPatternsAndStatesAreNotChanged(t *testing.T) {
	for _, p := range []api.Pattern{askingFields(), threeOf()} {
		before, s := copiedPattern(p), midway()
		h := begun(t, p, 0)
		for k, topic := range []uint8{1, 2, 3, 9, 1} {
			h.feed(fieldsOf(uint64(k), topic))
		}
		h = restored(t, p, s)
		for k, topic := range []uint8{1, 2, 3, 9, 1} {
			h.feed(fieldsOf(100+uint64(k), topic))
		}
		if !tree.Same(p, before) || !sameState(s, midway()) {
			t.Errorf("%s was %s; %+v", told(p), told(before), s)
		}
	}
}

// Writing into a state that was handed to Restore changes no engine, nor do engines change each other's.
func TestStatesAreNotKept(t *testing.T) {
	s := midway()
	e, _ := runs.Restore(threeOf(), s)
	other, _ := runs.Restore(threeOf(), s)
	clear(s.Runs)
	goesOnAs(t, threeOf(), e, midway())
	goesOnAs(t, threeOf(), other, midway())
}

// Room behind the runs that are handed in is neither asked nor written.
func TestRoomBehindWhatIsHandedIn(t *testing.T) {
	s := midway()
	s.Runs = append(s.Runs, api.Run{Start: 1, At: 1, Set: 1 << 63}, api.Run{})
	behind := slices.Clone(s.Runs)
	s.Runs = s.Runs[:3]
	h := restored(t, threeOf(), s)
	for at := range uint64(10) {
		h.feed(logged(100+at, uint8(1+at%3)))
	}
	if !slices.Equal(s.Runs[:5], behind) {
		t.Errorf("%+v was written", s.Runs[:5])
	}
}

// Writing into what State answered changes no engine, and feeding changes nothing that was answered.
func TestAnsweredStatesAreNew(t *testing.T) {
	e, _ := runs.Restore(threeOf(), midway())
	first, second := e.State(), e.State()
	clear(first.Runs)
	_ = append(first.Runs, api.Run{Start: 77})
	if !sameState(second, midway()) {
		t.Errorf("%+v", second)
	}
	goesOnAs(t, threeOf(), e, midway())
	if !sameState(second, midway()) {
		t.Errorf("%+v", second)
	}
	e, _ = runs.New(threeOf(), 0)
	e.Feed(logged(0, 1))
	s := e.State()
	s.Runs[0] = api.Run{Start: 7, At: 7, Set: 2}
	s = e.State()
	_ = append(s.Runs[:0], api.Run{Start: 7, At: 7, Set: 2})
	goesOnAs(t, threeOf(), e, api.RunState{Next: 1, Runs: []api.Run{{Set: 1}}})
}

// Writing into matches that were answered changes no later ones.
func TestAnsweredMatchesAreNew(t *testing.T) {
	h := begun(t, of(pair()), 0)
	h.fullRow(5)
	first, _ := h.feed(logged(1, 2))
	clear(first)
	_ = append(first, m(77, 77))
	second, _ := h.feed(logged(1, 2))
	clear(first)
	if !slices.Equal(second, []api.Match{m(0, 6), m(1, 6), m(2, 6), m(3, 6), m(4, 6)}) {
		t.Errorf("%v", second)
	}
}

// An event that was fed is neither changed nor kept.
func TestEventsAreNotKept(t *testing.T) {
	h := begun(t, askingFields(), 0)
	for k, topic := range []uint8{1, 2, 3} {
		l := fieldsOf(uint64(k), topic)
		l.Event.Fields = l.Event.Fields[:2:2]
		h.feed(l)
		if l.Event.Topic != topic || l.At != uint64(k) || !slices.Equal(l.Event.Fields, []api.Value{whole(5), whole(6)}) {
			t.Errorf("%v", l)
		}
		clear(l.Event.Fields)
	}
	h.fed(fieldsOf(3, 3), m(0, 3))
}

// A list that is nil and one that is empty are the same.
func TestEmptyLists(t *testing.T) {
	p := threeOf()
	for i := range p.Nodes {
		p.Nodes[i].Pred.Tests, p.Nodes[i].Guard.Tests = []api.Test{}, []api.Test{}
	}
	e, errno := runs.Restore(p, api.RunState{Next: 4, Runs: []api.Run{}})
	if errno != api.OK {
		t.Fatal(errno)
	}
	h := &held{t, threeOf(), e, plainOf(t, threeOf(), api.RunState{Next: 4})}
	for k, topic := range []uint8{1, 2, 3} {
		l := logged(uint64(k), topic)
		l.Event.Fields = []api.Value{}
		h.feed(l)
	}
}

// Two engines of one pattern know nothing of each other.
func TestEnginesBesideEachOther(t *testing.T) {
	p := threeOf()
	a, b, c := begun(t, p, 0), begun(t, p, 100), restored(t, p, midway())
	for k := range uint64(20) {
		a.feed(logged(k, uint8(1+k%3)))
		b.feed(logged(k, uint8(1+k/2%3)))
		c.feed(logged(100+k, uint8(3-k%3)))
		a.look()
		b.look()
	}
}
