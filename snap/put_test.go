package snap_test

import (
	"bytes"
	"slices"
	"testing"

	"equerry/api"
	"equerry/snap"
)

// P16.1: Put

// put is the writing of a state that is written.
func put(t testing.TB, s state) []byte {
	t.Helper()
	b, errno := snap.Put(s)
	if errno != api.OK {
		t.Fatalf("Put of %s = %v", short(s), errno)
	}
	return b
}

// wantPut wants a writing.
func wantPut(t *testing.T, s state, want []byte) {
	t.Helper()
	if got, errno := snap.Put(s); !bytes.Equal(got, want) || errno != api.OK {
		t.Errorf("Put of %s = %x, %v, want %x", short(s), got, errno, want)
	}
}

// wantNoPut wants ErrArg, and nothing beside it.
func wantNoPut(t *testing.T, s state) {
	t.Helper()
	if got, errno := snap.Put(s); len(got) != 0 || errno != api.ErrArg {
		t.Errorf("Put of %s = %x, %v, want ErrArg", short(s), got, errno)
	}
}

// putAsSaid wants of a state what the chapter says, and tells whether it is written.
func putAsSaid(t *testing.T, s state) bool {
	t.Helper()
	may := plainWritten(s)
	if may {
		wantPut(t, s, writing(s))
	} else {
		wantNoPut(t, s)
	}
	return may
}

// knownStates are states by their writings, byte by byte.
func knownStates() map[string]state {
	const all, least = "\xff\xff\xff\xff\xff\xff\xff\xff\xff\x01", "\xfe\xff\xff\xff\xff\xff\xff\xff\xff\x01"
	const large = "\x80\x80\x80\x80\x80\x20"
	return map[string]state{
		"\x00\x00\x00\x00":                                             {},
		"\x07\x09\x00\x00":                                             {Next: 7, Last: 9},
		"\x00\x80\x01\x00\x00":                                         {Last: 128},
		large + "\x00\x00\x00":                                         {Next: 1 << 40},
		"\x00" + large + "\x00\x00":                                    {Last: 1 << 40},
		"\x00\x00\x01\x00":                                             {Failed: true},
		"\x05\x00\x01\x04":                                             {Next: 5, Failed: true, FailedAt: 4},
		"\x05\x03\x01\x05":                                             {Next: 5, Last: 3, Failed: true, FailedAt: 5},
		"\x05\x03\x01\xac\x02":                                         {Next: 5, Last: 3, Failed: true, FailedAt: 300},
		"\x05\x03\x01" + all:                                           {Next: 5, Last: 3, Failed: true, FailedAt: 1<<64 - 1},
		"\x01\x01\x00\x01\x00\x00\x01":                                 {Next: 1, Last: 1, Runs: list{{Set: 1}}},
		"\x09\x08\x00\x01\x07\x06\x05":                                 {Next: 9, Last: 8, Runs: list{{Start: 7, At: 6, Set: 5}}},
		"\x09\x08\x00\x01\x07\x06\x00":                                 {Next: 9, Last: 8, Runs: list{{Start: 7, At: 6}}},
		"\x09\x08\x00\x01\x07\x06" + all:                               {Next: 9, Last: 8, Runs: list{{Start: 7, At: 6, Set: 1<<64 - 1}}},
		"\x09\x08\x00\x01" + all + "\x06\x05":                          {Next: 9, Last: 8, Runs: list{{Start: 1<<64 - 1, At: 6, Set: 5}}},
		"\x09\x08\x00\x01\x07" + least + "\x05":                        {Next: 9, Last: 8, Runs: list{{Start: 7, At: 1<<64 - 2, Set: 5}}},
		"\xac\x02\x09\x00\x02\x05\x02\x03\x02\x00\x80\x01":             {Next: 300, Last: 9, Runs: list{{Start: 5, At: 2, Set: 3}, {Start: 7, At: 2, Set: 128}}},
		"\x14\x1e\x00\x03\x0a\x14\x01\x01\x00\x02\x05\x0a\x04":         {Next: 20, Last: 30, Runs: list{{Start: 10, At: 20, Set: 1}, {Start: 11, At: 20, Set: 2}, {Start: 16, At: 30, Set: 4}}},
		"\x00\x00\x00\x02\x00\x00\x01" + all + all + "\x02":            {Runs: list{{Set: 1}, {Start: 1<<64 - 1, At: 1<<64 - 1, Set: 2}}},
		"\x00\x00\x00\x02" + least + all + "\x01\x01\x00\x02":          {Runs: list{{Start: 1<<64 - 2, At: 1<<64 - 1, Set: 1}, {Start: 1<<64 - 1, At: 1<<64 - 1, Set: 2}}},
		"\x00\x00\x00\x03\x01\x05\x07\x80\x01\x00\x07\x01\xac\x02\x07": {Runs: list{{Start: 1, At: 5, Set: 7}, {Start: 129, At: 5, Set: 7}, {Start: 130, At: 305, Set: 7}}},
	}
}

func TestPutOfKnownStates(t *testing.T) {
	for want, s := range knownStates() {
		wantPut(t, s, []byte(want))
	}
}

func TestPutOfAll(t *testing.T) {
	for _, s := range written() {
		wantPut(t, s, writing(s))
	}
}

func TestPutOfNext(t *testing.T) {
	for _, n := range append(numbers(), 1<<40-1, 1<<40, 1<<40+1) {
		for _, s := range []state{on(n, 5), on(n, 5, row(3)...), failed(n, 5, 4)} {
			if n <= 1<<40 {
				wantPut(t, s, writing(s))
			} else {
				wantNoPut(t, s)
			}
		}
	}
}

func TestPutOfLast(t *testing.T) {
	for _, n := range append(numbers(), 1<<40-1, 1<<40, 1<<40+1) {
		for _, s := range []state{on(5, n), on(5, n, row(3)...), failed(5, n, 4)} {
			if n <= 1<<40 {
				wantPut(t, s, writing(s))
			} else {
				wantNoPut(t, s)
			}
		}
	}
}

// A state that isn't Failed has failed at no event.
func TestPutOfFailedAtWithoutFailed(t *testing.T) {
	for _, s := range []state{{}, on(5, 9), on(5, 9, row(1)...), on(5, 9, row(64)...)} {
		wantPut(t, s, writing(s))
		for _, n := range append(numbers()[1:], 1, 4, 5) {
			wantNoPut(t, changed(s, func(s *state) { s.FailedAt = n }))
		}
	}
}

// Of a state that is Failed FailedAt may be any number: below Next, that, above.
func TestPutOfFailedAt(t *testing.T) {
	for _, next := range upTo(mostNext) {
		for _, n := range append(numbers(), next-1, next, next+1) {
			s := failed(next, 5, n)
			wantPut(t, s, writing(s))
		}
	}
}

func TestPutOfFailedWithRuns(t *testing.T) {
	for _, n := range []uint64{0, 4, 5, 6, most} {
		for _, runs := range []int{1, 2, 63, 64, 65, 300} {
			s := failed(5, 9, n)
			s.Runs = row(runs)
			wantNoPut(t, s)
		}
		for _, empty := range []list{nil, {}, make(list, 0, 70)} {
			s := failed(5, 9, n)
			s.Runs = empty
			wantPut(t, s, joined([]byte{5, 9, 1}, numbered(n)))
		}
	}
}

func TestPutOfHowManyRuns(t *testing.T) {
	for n := range 65 {
		s := on(64, 64, row(n)...)
		wantPut(t, s, writing(s))
		if b := put(t, s); int(b[3]) != n {
			t.Errorf("the writing of %d runs says %d", n, b[3])
		}
	}
	for _, n := range []int{65, 66, 127, 128, 255, 256, 257, 320, 65536, 65600} {
		wantNoPut(t, on(64, 64, row(n)...))
		wantNoPut(t, on(mostNext+1, mostLast+1, row(n)...))
	}
	wantNoPut(t, on(64, 64, make(list, 65)...))
}

// The first run is as it is, the others are as far above the one ahead of them as they are.
func TestPutOfHowMuchRunsAreAbove(t *testing.T) {
	for _, n := range numbers() {
		for _, m := range upTo(most - n) {
			second := run(n+m, most, 2)
			if m > 0 {
				wantPut(t, on(1, 2, run(n, most, 1), second), joined([]byte{1, 2, 0, 2}, numbered(n, most, 1, m, 0, 2)))
			}
			second = run(most, n+m, 2)
			if n < most {
				wantPut(t, on(1, 2, run(n, n, 1), second), joined([]byte{1, 2, 0, 2}, numbered(n, n, 1, most-n, m, 2)))
			}
		}
	}
}

// Each run of many, for all the numbers that it may have.
func TestPutOfRunsAtEachPlace(t *testing.T) {
	for place := range 64 {
		for _, n := range numbers() {
			l := climbing(n, place, 5, 7)
			ahead := run(5, 7, 0)
			if place > 0 {
				ahead = l[place-1]
			}
			if ahead.Start+1+n/2 <= ahead.Start || ahead.At+n/3 < ahead.At {
				continue
			}
			s := on(7, 9, append(l, run(ahead.Start+1+n/2, ahead.At+n/3, n))...)
			wantPut(t, s, writing(s))
		}
	}
}

// Two runs of which the second one doesn't rise stand at each place of a list, with others ahead of and behind them.
func TestPutOfStartsThatDontRise(t *testing.T) {
	for _, pair := range [][2]uint64{{0, 0}, {1, 0}, {5, 5}, {5, 4}, {300, 44}, {most, most}, {most, most - 1}, {most, 0}, {1 << 63, 1<<63 - 1}} {
		for _, at := range []uint64{0, 5, most} {
			wantNoPut(t, on(9, 9, run(pair[0], at, 1), run(pair[1], at, 2)))
			wantNoPut(t, on(9, 9, run(pair[0], 0, 1), run(pair[1], at, 1)))
		}
	}
	for _, n := range []int{2, 3, 5, 64} {
		for place := 1; place < n; place++ {
			for _, back := range []uint64{0, 1, 2} {
				s := on(64, 64, row(n)...)
				for i := range s.Runs {
					s.Runs[i].Start += 2
				}
				s.Runs[place].Start = s.Runs[place-1].Start - back
				wantNoPut(t, s)
			}
		}
	}
	wantNoPut(t, on(9, 9, run(1, 1, 1), run(3, 1, 1), run(2, 1, 1))) // above the first one, not above the second
	wantNoPut(t, on(9, 9, run(2, 1, 1), run(1, 1, 1), run(3, 1, 1)))
	wantNoPut(t, on(9, 9, run(1, 1, 1), run(2, 1, 1), run(1, 1, 1)))
}

// Ats may be equal, but not fall.
func TestPutOfAts(t *testing.T) {
	for _, at := range numbers() {
		s := on(9, 9, run(1, at, 1), run(2, at, 2), run(5, at, 4))
		wantPut(t, s, writing(s))
		s = on(9, 9, run(1, 0, 1), run(2, at, 2), run(5, most, 4))
		wantPut(t, s, writing(s))
		for _, lower := range upTo(at) {
			if lower < at {
				wantNoPut(t, on(9, 9, run(1, at, 1), run(2, lower, 2)))
				wantNoPut(t, on(9, 9, run(1, lower, 1), run(2, at, 2), run(3, lower, 4)))
				wantNoPut(t, on(9, 9, run(1, at, 1), run(2, lower, 2), run(3, at, 4)))
			}
		}
	}
	for _, n := range []int{2, 3, 5, 64} {
		for place := 1; place < n; place++ {
			s := on(64, 64, row(n)...)
			s.Runs[place].At = s.Runs[place-1].At
			wantPut(t, s, writing(s))
			for i := range s.Runs {
				s.Runs[i].At++
			}
			s.Runs[place].At = s.Runs[place-1].At - 1
			wantNoPut(t, s)
		}
	}
}

// Of a Set, and of how a run is to Next and to Last, nothing is asked.
func TestPutOfSets(t *testing.T) {
	for _, set := range append(numbers(), 0, most) {
		for _, s := range []state{on(9, 9, run(1, 1, set)), on(9, 9, run(1, 1, 1), run(2, 1, set)), on(0, 0, run(9, 9, set), run(10, 9, set)), on(5, 5, run(5, 6, set), run(mostNext+1, mostLast+1, set))} {
			wantPut(t, s, writing(s))
		}
	}
}

// faults are what keeps a state with three runs from being written, one by one.
func faults() []func(s *state) {
	return []func(s *state){
		func(s *state) { s.Next = mostNext + 1 },
		func(s *state) { s.Last = mostLast + 1 },
		func(s *state) { s.FailedAt = 1 },
		func(s *state) { s.Failed = true },
		func(s *state) { s.Runs = append(s.Runs, climbing(3, 65, 1<<50, 1<<50)...) },
		func(s *state) { s.Runs[1].Start = s.Runs[0].Start },
		func(s *state) { s.Runs[1].At = s.Runs[0].At - 1 },
	}
}

// All sets of faults: none makes good what another one spoils.
func TestPutOfSeveralFaults(t *testing.T) {
	for set := range 1 << len(faults()) {
		s := on(5, 9, run(1, 5, 1), run(2, 5, 2), run(3, 6, 3))
		for i, fault := range faults() {
			if set>>i&1 == 1 {
				fault(&s)
			}
		}
		if putAsSaid(t, s) != (set == 0) {
			t.Errorf("by the chapter the faults %b don't count", set)
		}
	}
}

// likelyState is a state by noise, of which something may be wrong.
func likelyState(seed uint64) state {
	c := noise(seed, 7)
	s := on(step(c[0])%(mostNext+2), step(c[1])%(mostLast+2), climbing(c[2], int(c[3]%67), step(c[4]), step(c[5]))...)
	switch c[6] % 8 {
	case 0:
		s.Failed, s.FailedAt = true, step(c[2])
		if c[6]>>8%4 > 0 {
			s.Runs = nil
		}
	case 1:
		s.FailedAt = c[6] >> 8 % 3
	case 2:
		if n := len(s.Runs); n > 1 {
			i := 1 + int(c[6]>>8%uint64(n-1))
			s.Runs[i].Start = s.Runs[i-1].Start + c[6]>>16%3 - 1
		}
	case 3:
		if n := len(s.Runs); n > 1 {
			i := 1 + int(c[6]>>8%uint64(n-1))
			s.Runs[i].At = s.Runs[i-1].At + c[6]>>16%3 - 1
		}
	}
	return s
}

func TestPutOfLikelyStates(t *testing.T) {
	may, mayNot := 0, 0
	for seed := range uint64(20000) {
		if putAsSaid(t, likelyState(seed)) {
			may++
		} else {
			mayNot++
		}
	}
	if may < 2000 || mayNot < 2000 {
		t.Errorf("%d of the states are written, %d aren't", may, mayNot)
	}
}

// All states of up to three runs whose numbers are small.
func TestPutOfAllSmallStates(t *testing.T) {
	for n := range 4 {
		for c := range 1 << (4 * n) {
			l := list{}
			for i := range n {
				l = append(l, run(uint64(c>>(4*i)&3), uint64(c>>(4*i+2)&3), uint64(i)))
			}
			putAsSaid(t, on(1, 2, l...))
			putAsSaid(t, state{Next: 1, Last: 2, FailedAt: 1, Runs: l})
			putAsSaid(t, state{Next: 1, Last: 2, Failed: true, Runs: l})
			putAsSaid(t, state{Next: 1, Last: 2, Failed: true, FailedAt: 3, Runs: l})
		}
	}
}

// R3, R4, R5

func TestWhatIsHandedToPutStays(t *testing.T) {
	all := written()
	for seed := range uint64(2000) {
		all = append(all, likelyState(seed))
	}
	for _, s := range all {
		room := append(make(list, 0, len(s.Runs)+8), s.Runs...)
		spare := room[len(room):cap(room)]
		for i := range spare {
			spare[i] = run(7, 7, 7)
		}
		handed := changed(s, func(s *state) { s.Runs = room })
		first, errno := snap.Put(handed)
		if again, f := snap.Put(handed); !bytes.Equal(first, again) || errno != f {
			t.Errorf("Put of %s answers otherwise the second time", short(s))
		}
		if !identical(handed, s) || slices.ContainsFunc(spare, func(r api.Run) bool { return r != run(7, 7, 7) }) {
			t.Errorf("Put changes %s to %s", short(s), short(handed))
		}
	}
}

// What is put stays, as the state and another answer are written over.
func TestWhatIsPutLiesInNewMemory(t *testing.T) {
	for _, s := range written() {
		handed := changed(s, func(s *state) {})
		one, two := put(t, handed), put(t, handed)
		for i := range handed.Runs {
			handed.Runs[i] = run(9, 9, 9)
		}
		for i := range two[:cap(two)] {
			two[:cap(two)][i] = 0xee
		}
		if !bytes.Equal(one, writing(s)) {
			t.Errorf("the writing of %s became %x", short(s), one)
		}
		if three := put(t, s); !bytes.Equal(three, writing(s)) {
			t.Errorf("%s is put as %x then", short(s), three)
		}
	}
}

func TestPutOfListsWithoutRuns(t *testing.T) {
	for _, empty := range []list{nil, {}, make(list, 0, 70), row(5)[:0]} {
		wantPut(t, state{Next: 5, Last: 9, Runs: empty}, []byte{5, 9, 0, 0})
		wantPut(t, state{Next: 5, Last: 9, Failed: true, FailedAt: 4, Runs: empty}, []byte{5, 9, 1, 4})
		wantNoPut(t, state{Next: 5, Last: 9, FailedAt: 4, Runs: empty})
	}
}
