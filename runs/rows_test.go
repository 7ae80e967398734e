package runs_test

import (
	"slices"
	"testing"

	"equerry/api"
	"equerry/auto"
	"equerry/den"
	"equerry/pred"
	"equerry/runs"
)

// P15.1: rows of calls

// calls are what is done to an engine: some are refused, some hand its state on.
func calls() []func(h *held) {
	later := func(ticks uint64, topic uint8) func(h *held) {
		return func(h *held) { h.feed(logged(h.plain.last+ticks, topic)) }
	}
	return []func(h *held){
		later(0, 1), later(1, 1), later(0, 2), later(1, 2), later(2, 3), later(11, 1),
		func(h *held) { h.feed(logged(h.plain.last-1, 1)) }, // no time, if there was none
		func(h *held) { h.feed(logged(mostTime+1, 1)) },
		func(h *held) { h.feed(api.Logged{At: h.plain.last, Event: wrongEvents()[2]}) },
		func(h *held) { clear(h.e.State().Runs) },
		func(h *held) { *h = *restored(h.t, h.p, h.e.State()) },
	}
}

// eachRowOfCalls calls for all rows of n calls.
func eachRowOfCalls(n int, call func(row []func(h *held))) {
	all := calls()
	row := make([]func(h *held), n)
	var put func(k int)
	put = func(k int) {
		if k == n {
			call(row)
			return
		}
		for _, one := range all {
			row[k] = one
			put(k + 1)
		}
	}
	put(0)
}

// All rows of three calls, of engines of several patterns that are new, on their way, near the last number, near too many runs, or failed; of the first two all rows of four.
func TestAllShortRowsOfCalls(t *testing.T) {
	waiting := api.RunState{Next: mostIndex - 2, Last: 100, Runs: []api.Run{{Start: 2, At: 90, Set: 1}, {Start: 4, At: 99, Set: 1}, {Start: 6, At: 100, Set: 1}}}
	states := []api.RunState{{}, waiting, {Next: mostIndex - 1, Last: mostTime - 1}, crowd(63), crowd(64), fellAt()}
	for _, l := range []nodes{pair(), not(2, rep(1, 3, each())), alt(not(1, seq(one(3), one(1))), one(2), pair())} {
		for k, s := range states {
			n := 3
			if k < 2 {
				n = 4
			}
			eachRowOfCalls(n, func(row []func(h *held)) {
				h := restored(t, within(10, l), s)
				for _, call := range row {
					call(h)
				}
			})
		}
	}
}

// Long rows of calls by noise.
func TestLongRowsOfCalls(t *testing.T) {
	all := calls()
	for seed, p := range grownPatterns(600, 20) {
		h := begun(t, p, uint64(seed))
		for _, c := range noise(uint64(seed), 60) {
			all[c>>8%uint64(len(all))](h)
		}
	}
}

// P15.2

// means wants the matches of a row that is fed to be those of the pattern in it, as far as the engine doesn't fail, and tells how many there are.
func means(t *testing.T, p api.Pattern, next uint64, l []api.Logged) (found int, failed bool) {
	t.Helper()
	e, errno := runs.New(p, next)
	if errno != api.OK {
		t.Fatalf("New of %s = %v", told(p), errno)
	}
	var got []api.Match
	n := len(l)
	for k, one := range l {
		matches, errno := e.Feed(one)
		if errno == api.ErrMany {
			n, failed = k, true
			break
		}
		if errno != api.OK {
			t.Fatalf("%s: Feed of %d in %s = %v", told(p), k, toldRow(l), errno)
		}
		got = append(got, matches...)
	}
	want, errno := den.Matches(p, l[:n])
	if errno != api.OK {
		t.Fatalf("Matches of %s in %s = %v", told(p), toldRow(l), errno)
	}
	for i := range want {
		want[i].From += next
		want[i].To += next
	}
	if !slices.Equal(got, want) {
		t.Fatalf("%s from %d, fed %s: %v, want %v", told(p), next, toldRow(l), got, want)
	}
	return len(want), failed
}

// All patterns of at most four nodes, in all rows of at most five events.
func TestAllShortPatternsInAllShortRows(t *testing.T) {
	topics := []api.Pred{asked(1), asked(2), ofAny()}
	for n := 1; n <= 4; n++ {
		for k, shape := range shapes(n) {
			for seed := range uint64(3) {
				p := within(1+seed*seed, asking(shape, seed*100+uint64(k), topics))
				if _, errno := auto.Compile(p); errno != api.OK {
					continue
				}
				eachRow([]uint8{1, 2, 3}, 5, func(l []api.Logged) {
					if len(l) == 5 { // the matches of its beginnings come with it
						means(t, p, seed, l)
					}
				})
			}
		}
	}
}

// The same of five and six nodes, in rows by noise.
func TestShortPatternsInLongRows(t *testing.T) {
	for n := 5; n <= 6; n++ {
		for k, shape := range shapes(n) {
			p := within(uint64(1+k%30), asking(shape, uint64(k), questions()))
			if _, errno := auto.Compile(p); errno == api.OK {
				means(t, p, uint64(k), grownRow(uint64(k)*3, 8+k%6))
			}
		}
	}
}

func TestLongPatternsInLongRows(t *testing.T) {
	found := 0
	for k, p := range grownPatterns(1500, 17) {
		for seed := range uint64(4) {
			n, _ := means(t, p, seed, grownRow(seed*1000+uint64(k), int(4+seed*6)))
			found += n
		}
	}
	if found < 10000 {
		t.Errorf("%d matches are too few to tell", found)
	}
}

// Rows that are longer than an engine has runs, of which some fail: up to there the matches are the pattern's.
func TestRowsOfMoreEventsThanRuns(t *testing.T) {
	failing, others := 0, 0
	for k, p := range grownPatterns(250, 300) {
		if _, failed := means(t, p, 5, grownRow(uint64(k), 120)); failed {
			failing++
		} else {
			others++
		}
	}
	if min(failing, others) < 20 {
		t.Errorf("%d that fail and %d that don't are too few to tell", failing, others)
	}
}

// What an automaton's bounds leave room for, in rows that are long enough for it.
func TestGreatPatternsInLongRows(t *testing.T) {
	eight := rep(8, 8, one(1))
	for _, l := range []nodes{
		rep(8, 8, seq(times(4, one(1))...)), rep(1, 8, seq(times(4, one(1))...)), alt(eight, eight, eight, rep(7, 7, one(1)), one(2)),
		wide(8, 8), rep(1, 2, eitherOf(8)), rep(2, 8, not(2, seq(one(1), one(1)))), not(2, rep(3, 8, rep(1, 2, one(1)))),
		not(2, rep(1, 8, rep(1, 4, one(1)))), rep(4, 4, not(2, rep(2, 8, one(1)))), seq(eight, rep(1, 8, one(2)), rep(5, 8, one(1))),
	} {
		for seed := range uint64(6) {
			var topics []uint8
			for _, c := range noise(seed, 40) {
				topics = append(topics, 1+uint8(c>>8%(2+seed))/(1+uint8(seed)))
			}
			means(t, of(l), seed, row(topics...))
		}
		means(t, of(l), 0, row(slices.Repeat([]uint8{1}, 36)...))
	}
}

// The window and guards keep the runs few, however long the row is.
func TestManyEvents(t *testing.T) {
	for _, p := range []api.Pattern{within(3, not(3, pair())), within(30, rep(2, 3, one(1))), of(not(2, seq(one(1), each(), one(3))))} {
		var l []api.Logged
		for k, c := range noise(p.Window, 3000) {
			l = append(l, logged(uint64(k), uint8(1+c>>8%3)))
		}
		if n, failed := means(t, p, 0, l); failed || n < 500 {
			t.Errorf("%s: %d matches, failed: %v", told(p), n, failed)
		}
	}
}

// sets are, behind a row, the places that a run from the event i came to with each event, by all ways through the automaton.
func sets(a api.Auto, l []api.Logged, i int) []uint32 {
	at := make([]uint32, len(l))
	for k := i; k < len(l); k++ {
		for place, asks := range a.Preds {
			begins := k == i && a.First>>place&1 == 1
			led := slices.ContainsFunc(a.Edges, func(e api.Edge) bool { return int(e.To) == place && waitsAt(e, at[:k], l[:k], i) })
			if (begins || led) && pred.Holds(asks, l[k].Event) {
				at[k] |= 1 << place
			}
		}
	}
	return at
}

// waitsAt tells whether a run from the event i waits at an edge, behind a row with whose events it came to some places.
func waitsAt(e api.Edge, at []uint32, l []api.Logged, i int) bool {
	for k := len(l) - 1; k >= i; k-- {
		if at[k]>>e.From&1 == 1 {
			return true
		}
		if e.Guarded && pred.Holds(e.Guard, l[k].Event) {
			return false
		}
	}
	return false
}

// runsBehind are the runs behind a row, asked of the whole of it.
func runsBehind(a api.Auto, window, next uint64, l []api.Logged) []api.Run {
	var all []api.Run
	for i, first := range l {
		if l[len(l)-1].At-first.At > window {
			continue
		}
		r, at := api.Run{Start: next + uint64(i), At: first.At}, sets(a, l, i)
		for k, e := range a.Edges {
			if waitsAt(e, at, l, i) {
				r.Set |= 1 << k
			}
		}
		if r.Set != 0 {
			all = append(all, r)
		}
	}
	return all
}

// Where runs wait is where the ways through the row lead, asked anew of each beginning of it.
func TestRunsAreWays(t *testing.T) {
	for k, p := range grownPatterns(1200, 17) {
		a, _ := auto.Compile(p)
		l, e := grownRow(uint64(k), 10), begun(t, p, 3).e
		for n := range l {
			e.Feed(l[n])
			if got, want := e.State().Runs, runsBehind(a, p.Window, 3, l[:n+1]); !slices.Equal(got, want) {
				t.Fatalf("%s, fed %s: %+v, want %+v", told(p), toldRow(l[:n+1]), got, want)
			}
		}
	}
}

// P15.3

// goesOnTheSame wants engines that are restored at every place of a row to go on, call by call, as the one that they were taken of; and those that are restored at every place anew.
func goesOnTheSame(t *testing.T, p api.Pattern, next uint64, l []api.Logged) {
	t.Helper()
	first, errno := runs.New(p, next)
	if errno != api.OK {
		t.Fatalf("New of %s = %v", told(p), errno)
	}
	others := []*runs.Engine{again(t, p, first)}
	for k, one := range l {
		want, wantErrno := first.Feed(one)
		for i, e := range others {
			if got, errno := e.Feed(one); errno != wantErrno || !slices.Equal(got, want) {
				t.Fatalf("%s: restored behind %d events, %d of %s: %v, %v, want %v, %v", told(p), i, k, toldRow(l), got, errno, want, wantErrno)
			}
			wantSameEngine(t, e, first)
		}
		others = append(others, again(t, p, first))
		others[0] = again(t, p, others[0])
	}
}

// again is an engine that is restored from what another one's State answers.
func again(t *testing.T, p api.Pattern, e *runs.Engine) *runs.Engine {
	t.Helper()
	r, errno := runs.Restore(p, e.State())
	if errno != api.OK {
		t.Fatalf("Restore of %s, %+v = %v", told(p), e.State(), errno)
	}
	wantSameEngine(t, r, e)
	return r
}

// wantSameEngine wants two engines to be at the same place.
func wantSameEngine(t *testing.T, a, b *runs.Engine) {
	t.Helper()
	at, failed := a.Failed()
	wantAt, wantFailed := b.Failed()
	if !sameState(a.State(), b.State()) || at != wantAt || failed != wantFailed || a.Next() != b.Next() || a.Horizon() != b.Horizon() {
		t.Fatalf("at %+v, want %+v", a.State(), b.State())
	}
}

func TestRestoredGoesOnInShortRows(t *testing.T) {
	topics := []api.Pred{asked(1), asked(2), ofAny()}
	for n := 1; n <= 3; n++ {
		for k, shape := range shapes(n) {
			for seed := range uint64(3) {
				p := within(1+seed*seed, asking(shape, seed*100+uint64(k), topics))
				eachRow([]uint8{1, 2, 3}, 4, func(l []api.Logged) { goesOnTheSame(t, p, seed, l) })
			}
		}
	}
}

func TestRestoredGoesOnInLongRows(t *testing.T) {
	for k, p := range grownPatterns(600, 40) {
		goesOnTheSame(t, p, uint64(k), grownRow(uint64(k), 16))
	}
}

// Among refused events, up to the last number and time, and over a failure.
func TestRestoredGoesOnAtTheEdges(t *testing.T) {
	refusals := []api.Logged{logged(mostTime+1, 1), {At: mostTime, Event: wrongEvents()[0]}, logged(0, 1)}
	var l []api.Logged
	for k := range uint64(12) {
		l = append(l, logged(mostTime-12+k, uint8(1+k%3)))
		l = append(l, refusals...)
	}
	for _, next := range []uint64{0, mostIndex - 12, mostIndex - 5, mostIndex - 1, mostIndex} {
		goesOnTheSame(t, of(pair()), next, l)
		goesOnTheSame(t, within(2, not(3, rep(1, 4, each()))), next, l)
	}
	for _, next := range []uint64{0, mostIndex - 66, mostIndex - 65, mostIndex - 64} {
		goesOnTheSame(t, of(pair()), next, at(1, 70))
		goesOnTheSame(t, within(63, rep(2, 3, one(1))), next, at(1, 70))
		goesOnTheSame(t, within(64, rep(2, 3, one(1))), next, at(1, 70))
	}
}

// at are n events of a topic, one a tick.
func at(topic uint8, n int) []api.Logged { return row(slices.Repeat([]uint8{topic}, n)...) }
