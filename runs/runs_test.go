package runs_test

import (
	"math"
	"slices"
	"testing"

	"equerry/api"
	"equerry/auto"
	"equerry/runs"
)

// P15.1: New

// refusal is a pattern that has no automaton, and Compile's error of it.
type refusal struct {
	p    api.Pattern
	want api.Errno
}

// refusals are some for each of Compile's errors, and for two at once.
func refusals() []refusal {
	wrong := ofAny()
	wrong.Topic = 1
	deep := one(1)
	for range 9 {
		deep = rep(1, 1, deep)
	}
	return []refusal{
		{api.Pattern{}, api.ErrForm}, {of(nodes{}), api.ErrForm}, {of(make(nodes, 32)), api.ErrForm}, {of(seq(one(1))), api.ErrForm},
		{of(rep(0, 1, one(1))), api.ErrForm}, {of(not(9, one(1))), api.ErrForm},
		{of(nodes{{Kind: api.Seq, Size: math.MaxInt}, {Kind: api.One, Size: -1}}), api.ErrForm},
		{of(make(nodes, 33)), api.ErrMany}, {of(seq(times(32, one(1))...)), api.ErrMany},
		{of(asks(wrong)), api.ErrArg}, {of(guarded(wrong, pair())), api.ErrArg}, {within(0, asks(wrong)), api.ErrArg},
		{of(deep), api.ErrDeep}, {within(0, deep), api.ErrDeep},
		{within(0, one(1)), api.ErrRange}, {within(mostWindow+1, pair()), api.ErrRange}, {within(math.MaxUint64, pair()), api.ErrRange},
		{of(rep(5, 5, rep(1, 8, one(1)))), api.ErrLong},
		{of(wide(8, 9)), api.ErrMany}, {within(1, rep(1, 2, eitherOf(9))), api.ErrMany},
	}
}

// Compile's errors are told whatever number is the next one's, and there is no engine beside them.
func TestNewOfPatternsWithoutAutomaton(t *testing.T) {
	for _, c := range refusals() {
		if _, errno := auto.Compile(c.p); errno != c.want {
			t.Errorf("Compile of %s = %v", told(c.p), errno)
		}
		for _, next := range []uint64{0, 1, mostIndex, mostIndex + 1, math.MaxUint64} {
			if e, errno := runs.New(c.p, next); e != nil || errno != c.want {
				t.Errorf("New of %s, %d = %v, %v", told(c.p), next, e, errno)
			}
		}
	}
}

func TestNewAtEachNumber(t *testing.T) {
	for _, l := range []nodes{one(1), pair(), not(3, rep(1, 3, one(1))), wide(8, 8)} {
		for _, next := range []uint64{0, 1, 2, 1 << 32, mostIndex - 1, mostIndex} {
			h := begun(t, of(l), next)
			if s := h.e.State(); !sameState(s, api.RunState{Next: next}) {
				t.Errorf("New of %d is at %+v", next, s)
			}
		}
		for _, next := range []uint64{mostIndex + 1, mostIndex + 2, 2 * mostIndex, 1 << 63, math.MaxUint64} {
			if e, errno := runs.New(of(l), next); e != nil || errno != api.ErrRange {
				t.Errorf("New of %d = %v, %v", next, e, errno)
			}
		}
	}
}

// The time of the last event is 0 at first, so that none is below it.
func TestFirstTime(t *testing.T) {
	for _, at := range []uint64{0, 1, 5, mostTime - 1, mostTime} {
		begun(t, of(one(1)), 9).fed(logged(at, 1), m(9, 9))
	}
}

// P15.1: Feed

func TestKnownExamples(t *testing.T) {
	h := begun(t, of(pair()), 0)
	h.fed(logged(0, 1))
	h.fed(logged(1, 1))
	h.waits([2]uint64{0, 1}, [2]uint64{1, 1})
	h.fed(logged(2, 2), m(0, 2), m(1, 2))
	h = begun(t, within(10, not(3, pair())), 0)
	for _, l := range row(1, 3, 1) {
		h.fed(l)
	}
	h.fed(logged(3, 2), m(2, 3))
	begun(t, within(5, one(3)), 0).fed(logged(7, 3), m(0, 0))
}

// Each event counts, from the number that New was told.
func TestNumbersGoOn(t *testing.T) {
	for _, next := range []uint64{0, 1, 77, 1 << 32, mostIndex - 5} {
		h := begun(t, of(pair()), next)
		h.fed(logged(0, 9))
		h.fed(logged(0, 1))
		h.fed(logged(0, 9))
		h.fed(logged(0, 2), m(next+1, next+3))
		h.fed(logged(0, 2), m(next+1, next+4))
	}
}

// wantRefusals wants an error of events of all sorts, those that would be fed otherwise among them.
func (h *held) wantRefusals(want api.Errno, last uint64) {
	h.t.Helper()
	for _, at := range []uint64{0, last - 1, last, last + 1, mostTime, mostTime + 1, math.MaxUint64} {
		h.refused(logged(at, 1), want)
		h.refused(logged(at, 2), want)
		for _, wrong := range wrongEvents() {
			h.refused(api.Logged{At: at, Event: wrong}, want)
		}
	}
}

// Events that may not be, and times that may not be, change nothing, wherever they come.
func TestWrongEventsAreNotFed(t *testing.T) {
	for _, topics := range [][]uint8{{}, {1}, {1, 1}, {1, 2}, {9, 9, 9}, {1, 2, 1, 3, 1}} {
		h := begun(t, within(100, not(3, pair())), 7)
		for i, topic := range topics {
			h.feed(logged(50+uint64(i), topic))
		}
		last := h.e.State().Last
		for _, wrong := range wrongEvents() {
			h.refused(api.Logged{At: 80, Event: wrong}, api.ErrArg)
			h.refused(api.Logged{At: 0, Event: wrong}, api.ErrArg)
			h.refused(api.Logged{At: mostTime + 1, Event: wrong}, api.ErrArg)
		}
		for _, topic := range []uint8{1, 2, 3, 9} {
			for below := uint64(1); below <= last; below++ {
				h.refused(logged(last-below, topic), api.ErrArg)
			}
			for _, at := range []uint64{mostTime + 1, mostTime + 2, 2 * mostTime, 1 << 63, math.MaxUint64} {
				h.refused(logged(at, topic), api.ErrArg)
			}
		}
		h.feed(logged(80, 2))
	}
}

// Whose an event is, and its number with them, are nothing that Feed asks for.
func TestPublishersAreNotAsked(t *testing.T) {
	h := begun(t, of(pair()), 0)
	h.fed(api.Logged{Pub: math.MaxUint32, Seq: math.MaxUint64, Event: api.Event{Topic: 1}})
	h.fed(api.Logged{Pub: 0, Seq: 0, Event: api.Event{Topic: 2}}, m(0, 1))
}

func TestTimesAtTheirEdges(t *testing.T) {
	h := begun(t, of(pair()), 0)
	h.fed(logged(5, 1))
	h.refused(logged(4, 2), api.ErrArg)
	h.fed(logged(5, 2), m(0, 1))
	h.fed(logged(mostTime-1, 1))
	h.fed(logged(mostTime, 1))
	h.refused(logged(mostTime+1, 2), api.ErrArg)
	h.refused(logged(mostTime-1, 2), api.ErrArg)
	h.fed(logged(mostTime, 2), m(2, 4), m(3, 4))
}

// An engine that has no number left refuses all, whatever may be of it.
func TestNoNumberIsLeft(t *testing.T) {
	h := begun(t, of(pair()), mostIndex)
	h.wantRefusals(api.ErrRange, 1)
	h = begun(t, of(pair()), mostIndex-2)
	h.fed(logged(9, 1))
	h.fed(logged(9, 2), m(mostIndex-2, mostIndex-1))
	h.wantRefusals(api.ErrRange, 9)
	h = restored(t, of(pair()), h.e.State())
	h.wantRefusals(api.ErrRange, 9)
	h.waits([2]uint64{mostIndex - 2, 1})
}

// A failed engine refuses all as such, the last number's too.
func TestFailedEnginesRefuse(t *testing.T) {
	for _, next := range []uint64{0, 1000, mostIndex - 66, mostIndex - 65} {
		h := begun(t, of(pair()), next)
		for range 65 {
			h.feed(logged(3, 1))
		}
		if at, failed := h.e.Failed(); at != next+64 || !failed || h.e.Next() != next+65 || h.e.Horizon() != next+65 {
			t.Errorf("from %d: Failed = %d, %v, Next = %d, Horizon = %d", next, at, failed, h.e.Next(), h.e.Horizon())
		}
		h.wantRefusals(api.ErrState, 3)
		h = restored(t, of(pair()), h.e.State())
		h.wantRefusals(api.ErrState, 3)
	}
}

// P15.1: windows

func TestWindowJustKeptAndJustOver(t *testing.T) {
	for _, window := range []uint64{1, 2, 10, mostWindow - 1, mostWindow} {
		for _, begin := range []uint64{0, 1, 1000, mostTime - mostWindow - 1} {
			h := begun(t, within(window, pair()), 0)
			h.fed(logged(begin, 1))
			h.fed(logged(begin+window, 2), m(0, 1))
			h.fed(logged(begin+window, 2), m(0, 2))
			h.waits([2]uint64{0, 1})
			h.fed(logged(begin+window+1, 2))
			h.waits()
			h = begun(t, within(window, pair()), 0)
			h.fed(logged(begin, 1))
			h.fed(logged(begin+window+1, 2))
			h.waits()
		}
	}
}

// The window is asked from the event with which a run began, not from those with which it went on.
func TestWindowFromTheBeginning(t *testing.T) {
	h := begun(t, within(4, seq(one(1), one(2), one(3))), 0)
	h.fed(logged(0, 1))
	h.fed(logged(4, 2))
	h.fed(logged(4, 3), m(0, 2))
	h.fed(logged(5, 3))
	h.waits()
}

// Of several runs, those whose window is over are gone, and no others.
func TestWindowsOfEachRun(t *testing.T) {
	h := begun(t, within(3, pair()), 0)
	for at := range uint64(6) {
		h.fed(logged(at, 1))
	}
	h.waits([2]uint64{2, 1}, [2]uint64{3, 1}, [2]uint64{4, 1}, [2]uint64{5, 1})
	h.fed(logged(7, 2), m(4, 6), m(5, 6))
	h.fed(logged(8, 2), m(5, 7))
	h.fed(logged(9, 2))
	h.waits()
}

func TestEqualTimes(t *testing.T) {
	h := begun(t, within(1, rep(2, 3, one(1))), 0)
	h.fed(logged(5, 1))
	h.fed(logged(5, 1), m(0, 1))
	h.fed(logged(5, 1), m(0, 2), m(1, 2))
	h.fed(logged(5, 1), m(0, 3), m(1, 3), m(2, 3))
}

// P15.1: guards

// What holds of the event with which a run goes on at the same edge: it goes on, and waits there no further.
func TestGuardOfTheEventThatGoesOn(t *testing.T) {
	for _, guard := range []api.Pred{asked(2), ofAny()} {
		h := begun(t, of(guarded(guard, pair())), 0)
		h.fed(logged(0, 1))
		h.fed(logged(1, 2), m(0, 1))
		h.waits()
		h.fed(logged(2, 2))
		h = begun(t, of(guarded(guard, seq(one(1), one(2), one(3)))), 0)
		h.fed(logged(0, 1))
		h.fed(logged(1, 2))
		h.waits([2]uint64{0, 2})
		h.fed(logged(2, 3), m(0, 2))
		h.fed(logged(3, 2))
	}
}

// What holds of it at another edge: what goes on goes on, and what waits at the guarded edge is over.
func TestGuardAtAnotherEdge(t *testing.T) {
	h := begun(t, of(seq(one(1), alt(one(2), not(9, pair())), one(3))), 0) // 0 waits for 2 or for 1 behind it, of which 1 is guarded ahead of its 2
	h.fed(logged(0, 1))
	h.fed(logged(1, 1))
	h.waits([2]uint64{0, 0b01011}, [2]uint64{1, 0b00011})
	h.fed(logged(2, 9))
	h.waits([2]uint64{0, 0b00011}, [2]uint64{1, 0b00011})
	h.fed(logged(3, 2))
	h.fed(logged(4, 3), m(0, 4), m(1, 4))

	h = begun(t, of(alt(not(2, seq(one(1), one(3))), pair())), 0) // from 1 to 3 behind no 2, or from 1 to 2
	h.fed(logged(0, 1))
	h.waits([2]uint64{0, 0b11})
	h.fed(logged(1, 2), m(0, 1))
	h.waits([2]uint64{0, 0b10})
	h.fed(logged(2, 3))
	h.fed(logged(3, 2), m(0, 3))
}

// An edge that is over, and is led to again by the same event, is waited at: the event isn't between.
func TestEdgeThatIsOverAndLedTo(t *testing.T) {
	h := begun(t, of(seq(one(1), not(2, seq(alt(one(2), one(4)), one(3))))), 0)
	h.fed(logged(0, 1))
	h.fed(logged(1, 2))
	h.waits([2]uint64{0, 0b0111})
	h.fed(logged(2, 2))
	h.waits([2]uint64{0, 0b0111})
	h.fed(logged(3, 3), m(0, 3))
	h.fed(logged(4, 4))
	h.waits([2]uint64{0, 0b1111})
	h.fed(logged(5, 2))
	h.waits([2]uint64{0, 0b0111})
}

// What holds of the event with which a run begins isn't between.
func TestGuardOfTheEventThatBegins(t *testing.T) {
	for _, guard := range []api.Pred{asked(1), ofAny()} {
		h := begun(t, of(guarded(guard, pair())), 0)
		h.fed(logged(0, 1))
		h.waits([2]uint64{0, 1})
		h.fed(logged(1, 1))
		h.waits([2]uint64{1, 1})
		h.fed(logged(2, 2), m(1, 2))
	}
	h := begun(t, of(not(1, rep(1, 3, one(1)))), 0)
	h.fed(logged(0, 1), m(0, 0))
	h.fed(logged(1, 1), m(0, 1), m(1, 1))
	h.fed(logged(2, 1), m(0, 2), m(1, 2), m(2, 2))
	h.fed(logged(3, 1), m(1, 3), m(2, 3), m(3, 3))
}

// An edge that isn't Guarded asks nothing of what comes between, a topic 0 neither.
func TestEdgesWithoutGuard(t *testing.T) {
	h := begun(t, of(pair()), 0)
	h.fed(logged(0, 1))
	for topic := range uint64(256) {
		if topic != 1 && topic != 2 {
			h.fed(logged(1, uint8(topic)))
			h.waits([2]uint64{0, 1})
		}
	}
	h = begun(t, of(not(0, pair())), 0)
	h.fed(logged(0, 1))
	h.fed(logged(0, 3))
	h.waits([2]uint64{0, 1})
	h.fed(logged(0, 0))
	h.waits()
}

// A guard is asked of the whole event.
func TestGuardsThatAskFields(t *testing.T) {
	h := begun(t, of(guarded(asked(3, above(0, 4)), pair())), 0)
	h.fed(logged(0, 1, whole(9)))
	h.fed(logged(0, 3))
	h.fed(logged(0, 3, whole(4)))
	h.fed(logged(0, 4, whole(5)))
	h.fed(logged(0, 2), m(0, 4))
	h.fed(logged(0, 3, whole(5)))
	h.fed(logged(0, 2))
	h.waits()
}

// P15.1: matches and runs

// Where several edges, or several places, lead to a match, it is told once.
func TestMatchesAreToldOnce(t *testing.T) {
	h := begun(t, of(wide(3, 4)), 0)
	h.fed(logged(0, 1))
	h.fed(logged(1, 1), m(0, 1))
	h.fed(logged(2, 1), m(0, 2), m(1, 2))
	h = begun(t, of(eitherOf(5)), 0)
	h.fed(logged(0, 1), m(0, 0))
	h.fed(logged(1, 1), m(1, 1))
	h = begun(t, of(alt(pair(), pair(), seq(one(1), rep(1, 2, one(2))))), 0)
	h.fed(logged(0, 1))
	h.fed(logged(1, 2), m(0, 1))
	h.fed(logged(2, 2), m(0, 2))
	h = begun(t, of(rep(1, 2, rep(1, 2, one(1)))), 0)
	h.fed(logged(0, 1), m(0, 0))
	h.fed(logged(1, 1), m(0, 1), m(1, 1))
	h.fed(logged(2, 1), m(0, 2), m(1, 2), m(2, 2))
}

// The match of an event with itself is behind those of all runs.
func TestMatchesRise(t *testing.T) {
	h := begun(t, of(alt(one(2), pair())), 10)
	for at := range uint64(4) {
		h.fed(logged(at, 1))
	}
	h.fed(logged(9, 2), m(10, 14), m(11, 14), m(12, 14), m(13, 14), m(14, 14))
	h = begun(t, of(rep(1, 8, one(1))), 0)
	for n := range uint64(30) {
		matches, _ := h.feed(logged(n, 1))
		var want []api.Match
		for from := range n + 1 {
			want = append(want, m(from, n))
		}
		if !slices.Equal(matches, want) {
			t.Errorf("%d: %v", n, matches)
		}
	}
}

// A pattern of one event alone has matches, and never a run.
func TestOneEventAlone(t *testing.T) {
	for _, l := range []nodes{one(1), alt(one(1), one(1)), rep(1, 1, one(1)), not(1, rep(1, 1, one(1))), alt(one(1), alt(one(7), one(8)))} {
		h := begun(t, within(1, l), 3)
		for n := range uint64(200) {
			if n%3 == 1 {
				h.fed(logged(n/5, 2))
			} else {
				h.fed(logged(n/5, 1), m(n+3, n+3))
			}
			h.waits()
			if h.e.Horizon() != n+4 {
				t.Fatalf("Horizon = %d", h.e.Horizon())
			}
		}
	}
}

// A run that is at a place without edges, and waits at no other one, is gone at once; the others stay.
func TestRunsThatWaitAtNoEdge(t *testing.T) {
	h := begun(t, of(alt(one(1), not(4, seq(one(1), one(2))), seq(one(3), one(2)))), 0)
	h.fed(logged(0, 1), m(0, 0))
	h.waits([2]uint64{0, 1})
	h.fed(logged(1, 3))
	h.fed(logged(2, 1), m(2, 2))
	h.waits([2]uint64{0, 1}, [2]uint64{1, 2}, [2]uint64{2, 1})
	h.fed(logged(3, 4))
	h.waits([2]uint64{1, 2})
	if h.e.Horizon() != 1 {
		t.Errorf("Horizon = %d", h.e.Horizon())
	}
	h.fed(logged(4, 2), m(1, 4))
	h.waits([2]uint64{1, 2})
}

// A run goes on at each edge at which it waits, and waits there further.
func TestRunsWaitOn(t *testing.T) {
	h := begun(t, of(seq(one(1), one(2), one(3))), 0)
	h.fed(logged(0, 1))
	h.waits([2]uint64{0, 1})
	h.fed(logged(1, 3))
	h.waits([2]uint64{0, 1})
	h.fed(logged(2, 2))
	h.waits([2]uint64{0, 3})
	h.fed(logged(3, 3), m(0, 3))
	h.fed(logged(4, 3), m(0, 4))
	h.waits([2]uint64{0, 3})
	h = begun(t, of(seq(each(), each(), each())), 0)
	h.fed(logged(0, 5))
	h.fed(logged(1, 5))
	h.waits([2]uint64{0, 3}, [2]uint64{1, 1})
	h.fed(logged(2, 5), m(0, 2))
	h.waits([2]uint64{0, 3}, [2]uint64{1, 3}, [2]uint64{2, 1})
}

// The last one of 32 places, and of 64 edges, as any other.
func TestLastPlacesAndEdges(t *testing.T) {
	h := begun(t, of(wide(8, 8)), 0)
	h.fed(logged(0, 1))
	h.waits([2]uint64{0, math.MaxUint64})
	h.fed(logged(1, 1), m(0, 1))
	eight := rep(8, 8, one(1))
	h = begun(t, of(seq(eight, eight, eight, rep(8, 8, one(2)))), 0)
	for n := range uint64(24) {
		h.fed(logged(n, 1))
	}
	for n := range uint64(7) {
		h.fed(logged(24, 2))
		if s := h.e.State(); s.Runs[0].Set != 1<<(25+n)-1 {
			t.Errorf("%d: %+v", n, s.Runs[0])
		}
	}
	h.fed(logged(24, 2), m(0, 31))
}

// P15.1: too many runs

// fullRow feeds runs of the topic 1 until there are so many.
func (h *held) fullRow(n int) {
	h.t.Helper()
	for range n {
		h.fed(logged(0, 1))
	}
	if got := len(h.e.State().Runs); got != n {
		h.t.Fatalf("%d runs, want %d", got, n)
	}
}

func TestSixtyFourRuns(t *testing.T) {
	h := begun(t, of(pair()), 5)
	h.fullRow(64)
	var want []api.Match
	for n := range uint64(64) {
		want = append(want, m(5+n, 69))
	}
	h.fed(logged(1, 2), want...)
	h.fed(logged(1, 9))
	if at, failed := h.e.Failed(); at != 0 || failed || h.e.Horizon() != 5 || h.e.Next() != 71 {
		t.Errorf("Failed = %d, %v, Horizon = %d, Next = %d", at, failed, h.e.Horizon(), h.e.Next())
	}
}

// With the 65th run the engine fails: the event has no matches, and counts.
func TestSixtyFiveRuns(t *testing.T) {
	for _, ahead := range []uint64{0, 5, 1 << 30} {
		for _, l := range []nodes{pair(), alt(one(1), pair()), rep(1, 2, one(1)), rep(1, 8, one(1))} {
			h := begun(t, of(l), ahead)
			for n := range uint64(64) {
				h.feed(logged(n, 1))
			}
			if got := len(h.e.State().Runs); got != 64 {
				t.Fatalf("%d runs", got)
			}
			if matches, errno := h.feed(logged(70, 1)); len(matches) != 0 || errno != api.ErrMany {
				t.Errorf("%v, %v", matches, errno)
			}
			if s := h.e.State(); !sameState(s, api.RunState{Next: ahead + 65, Last: 70, Failed: true, FailedAt: ahead + 64}) {
				t.Errorf("failed at %+v", s)
			}
		}
	}
}

// What counts is how many runs there are behind the event, those that go with it left out.
func TestSixtyFourAgain(t *testing.T) {
	h := begun(t, within(10, not(1, seq(one(1), one(2)))), 0) // each event ends all runs ahead
	for n := range uint64(200) {
		h.fed(logged(n/100, 1))
		h.waits([2]uint64{n, 1})
	}
	h = begun(t, within(10, pair()), 0)
	h.fullRow(63)
	h.fed(logged(10, 1))
	h.fed(logged(11, 1)) // 63 windows are over
	if got := len(h.e.State().Runs); got != 2 {
		t.Errorf("%d runs", got)
	}
	h = begun(t, of(not(3, pair())), 0)
	h.fullRow(64)
	h.fed(logged(0, 3))
	h.fullRow(64)
	h = begun(t, of(alt(pair(), not(1, seq(one(3), one(4))))), 0)
	h.fed(logged(0, 3))
	h.fullRow(63) // the first one is over
	h.fed(logged(0, 1))
	if matches, errno := h.feed(logged(0, 3)); len(matches) != 0 || errno != api.ErrMany {
		t.Errorf("%v, %v", matches, errno)
	}
}

// A match of an event alone makes no run, so 64 runs and it are not too many.
func TestMatchBesideSixtyFourRuns(t *testing.T) {
	h := begun(t, of(alt(pair(), one(3))), 0)
	h.fullRow(64)
	h.fed(logged(0, 3), m(64, 64))
	if got := len(h.e.State().Runs); got != 64 {
		t.Errorf("%d runs", got)
	}
}

// P15.1: no engine

func TestNoEngine(t *testing.T) {
	var e *runs.Engine
	for _, l := range append(row(0, 1), api.Logged{At: mostTime + 1}, api.Logged{Event: wrongEvents()[0]}) {
		if matches, errno := e.Feed(l); len(matches) != 0 || errno != api.ErrState {
			t.Errorf("Feed = %v, %v", matches, errno)
		}
	}
	if s := e.State(); !sameState(s, api.RunState{}) {
		t.Errorf("State = %+v", s)
	}
	if at, failed := e.Failed(); at != 0 || failed {
		t.Errorf("Failed = %d, %v", at, failed)
	}
	if next, horizon := e.Next(), e.Horizon(); next != 0 || horizon != 0 {
		t.Errorf("Next = %d, Horizon = %d", next, horizon)
	}
}
