package snap_test

import (
	"bytes"
	"slices"
	"testing"

	"equerry/api"
	"equerry/runs"
	"equerry/snap"
)

// P16.1: Get

// wantGet wants a state, and no error.
func wantGet(t *testing.T, b []byte, want state) {
	t.Helper()
	if got, errno := snap.Get(b); !identical(got, want) || errno != api.OK {
		t.Errorf("Get(%x) = %s, %v, want %s", b, short(got), errno, short(want))
	}
}

// wantNone wants an error, and nothing of a state beside it.
func wantNone(t *testing.T, b []byte, want api.Errno) {
	t.Helper()
	if got, errno := snap.Get(b); !identical(got, state{}) || errno != want {
		t.Errorf("Get(%.60x of %d) = %s, %v, want %v", b, len(b), short(got), errno, want)
	}
}

// getAsSaid wants of some bytes what the chapter says, and answers the error.
func getAsSaid(t *testing.T, b []byte) api.Errno {
	t.Helper()
	want, errno := plainGet(b)
	if errno == api.OK {
		wantGet(t, b, want)
	} else {
		wantNone(t, b, errno)
	}
	return errno
}

// behinds are bytes that stand behind others, for which they don't count.
func behinds() [][]byte {
	return [][]byte{nil, {0}, {1}, {2}, {0, 0}, {0x80}, {0x80, 0}, {5, 4, 1}, {255}, bytes.Repeat([]byte{1}, 300), bytes.Repeat([]byte{0xff}, 300), make([]byte, 300)}
}

// wantNoneHere wants an error of bytes, whatever stands behind them.
func wantNoneHere(t *testing.T, b []byte, want api.Errno) {
	t.Helper()
	for _, behind := range behinds() {
		wantNone(t, joined(b, behind), want)
	}
}

func TestGetOfKnownStates(t *testing.T) {
	for b, s := range knownStates() {
		wantGet(t, []byte(b), s)
	}
}

func TestGetOfAll(t *testing.T) {
	for _, s := range written() {
		wantGet(t, writing(s), s)
		if errno := getAsSaid(t, writing(s)); errno != api.OK {
			t.Errorf("by the chapter %x has the error %v", writing(s), errno)
		}
	}
}

// bases are states whose writings have each part that there is.
func bases() []state {
	return []state{
		{}, on(300, 9), on(mostNext, mostLast, run(5, 2, 3)), on(300, 9, run(5, 2, 3), run(7, 2, 128)), on(1, 1, climbing(4, 5, 300, 7)...), on(64, 64, row(64)...),
		failed(0, 0, 0), failed(300, 9, 299), failed(mostNext, mostLast, most),
	}
}

// eachPlace does something with what stands ahead of each number of each base's writing.
func eachPlace(do func(ahead []byte)) {
	for _, s := range bases() {
		for place := range parts(s) {
			if place != flagPlace {
				do(numbered(parts(s)[:place]...))
			}
		}
	}
}

// Cut off anywhere, in a number or ahead of one or of the byte, something isn't there.
func TestGetOfTooFewBytes(t *testing.T) {
	wantNone(t, nil, api.ErrShort)
	wantNone(t, []byte{}, api.ErrShort)
	for _, s := range written() {
		room := writing(s)
		for have := range room {
			wantNone(t, room[:have], api.ErrShort) // what is behind the length doesn't count
		}
	}
}

func TestGetOfNumbersThatAreCutOff(t *testing.T) {
	full := bytes.Repeat([]byte{0xff}, 9)
	eachPlace(func(ahead []byte) {
		for _, cut := range [][]byte{nil, {0x80}, {0xff}, {0x80, 0x80}, {0xac, 0x82, 0xff}, full, bytes.Repeat([]byte{0x80}, 9)} {
			wantNone(t, joined(ahead, cut), api.ErrShort)
		}
	})
}

func TestGetOfNumbersThatAreTooLong(t *testing.T) {
	full := bytes.Repeat([]byte{0xff}, 9)
	eachPlace(func(ahead []byte) {
		for _, tenth := range []byte{2, 3, 0x7f, 0x80, 0x81, 0xff} {
			wantNoneHere(t, joined(ahead, full, []byte{tenth}), api.ErrLong)
			wantNoneHere(t, joined(ahead, bytes.Repeat([]byte{0x80}, 9), []byte{tenth}), api.ErrLong)
		}
	})
}

func TestGetOfNumbersThatArentShortest(t *testing.T) {
	full := bytes.Repeat([]byte{0xff}, 9)
	eachPlace(func(ahead []byte) {
		for _, form := range [][]byte{{0x80, 0}, {0x81, 0}, {0xff, 0}, {0x85, 0x80, 0}, joined(full, []byte{0})} {
			wantNoneHere(t, joined(ahead, form), api.ErrForm)
		}
	})
}

// All bytes there are, behind some Next and Last, and none.
func TestGetOfTheByte(t *testing.T) {
	for _, next := range []uint64{0, 5, 300, mostNext, mostNext + 1, most} {
		for _, last := range []uint64{0, 9, 128, mostLast, mostLast + 1, most} {
			ahead := numbered(next, last)
			wantNone(t, ahead, api.ErrShort)
			for c := 2; c < 256; c++ {
				wantNoneHere(t, joined(ahead, []byte{byte(c)}), api.ErrForm)
			}
			wantNone(t, joined(ahead, []byte{0}), api.ErrShort)
			wantNone(t, joined(ahead, []byte{1}), api.ErrShort)
			if next <= mostNext && last <= mostLast {
				wantGet(t, joined(ahead, []byte{0, 0}), on(next, last))
				wantGet(t, joined(ahead, []byte{1, 0}), failed(next, last, 0))
				wantGet(t, joined(ahead, []byte{0, 1, 4, 5, 6}), on(next, last, run(4, 5, 6)))
				wantGet(t, joined(ahead, []byte{1, 1}), failed(next, last, 1))
				wantNone(t, joined(ahead, []byte{1, 1, 4, 5, 6}), api.ErrForm) // one that is Failed has no runs
			}
		}
	}
}

func TestGetOfHowManyRuns(t *testing.T) {
	for n := range 65 {
		s := on(64, 64, row(n)...)
		wantGet(t, writing(s), s)
		if n > 0 {
			wantNone(t, []byte{64, 64, 0, byte(n)}, api.ErrShort)
			wantNone(t, joined(writing(on(64, 64, row(n-1)...))[:3], []byte{byte(n)}, writing(on(64, 64, row(n-1)...))[4:]), api.ErrShort)
		}
		wantNone(t, joined(writing(s), []byte{1, 1, 1}), api.ErrForm) // one more than it says
	}
	for _, n := range append(numbers(), 64, 65, 66, 127, 128, 192, 256, 257, 320, 1<<32+1, 1<<32+64) {
		if n > 64 {
			wantNoneHere(t, joined([]byte{64, 64, 0}, numbered(n)), api.ErrMany)
			wantNoneHere(t, joined(numbered(mostNext+1, mostLast+1), []byte{0}, numbered(n)), api.ErrMany)
			if n < 400 {
				wantNone(t, writing(on(64, 64, row(int(n))...)), api.ErrMany)
			}
		}
	}
}

// The Starts' and the Ats' sums: such as just have room, and such as haven't, told at once, at each place of a list.
func TestGetOfSums(t *testing.T) {
	for _, n := range numbers() {
		for _, m := range numbers() {
			for at := range 2 {
				pair := [2][]uint64{{n, 0, 1}, {1, n, 1}}[at]
				second := [2][]uint64{{m, 0, 2}, {1, m, 2}}[at]
				ahead := joined([]byte{9, 9, 0, 2}, numbered(pair...), numbered(second[:at+1]...))
				sum, errno := plainSum(n, m)
				switch {
				case errno != api.OK:
					wantNoneHere(t, ahead, api.ErrRange)
					continue
				case at == 0 && m == 0:
					wantNone(t, joined(ahead, numbered(second[at+1:]...)), api.ErrArg)
				case at == 0:
					wantGet(t, joined(ahead, numbered(second[at+1:]...)), on(9, 9, run(n, 0, 1), run(sum, 0, 2)))
				default:
					wantGet(t, joined(ahead, numbered(second[at+1:]...)), on(9, 9, run(1, n, 1), run(2, sum, 2)))
				}
				wantNone(t, ahead, api.ErrShort)
			}
		}
	}
}

func TestGetOfSumsAtEachPlace(t *testing.T) {
	for place := 1; place < 64; place++ {
		ahead := joined([]byte{9, 9, 0, 64}, bytes.Repeat([]byte{1, 2, 3}, place))
		start, at := uint64(place), uint64(2*place)
		wantNoneHere(t, joined(ahead, numbered(most-start+1)), api.ErrRange)
		wantNoneHere(t, joined(ahead, numbered(most)), api.ErrRange)
		wantNoneHere(t, joined(ahead, numbered(1, most-at+1)), api.ErrRange)
		wantNoneHere(t, joined(ahead, numbered(1, most)), api.ErrRange)
		wantNoneHere(t, joined(ahead, numbered(0, most)), api.ErrRange)
		wantNone(t, joined(ahead, numbered(most-start, most-at)), api.ErrShort)

		ahead[3] = byte(place + 1)
		l := list{}
		for i := range place {
			l = append(l, run(uint64(i+1), uint64(2*i+2), 3))
		}
		wantGet(t, joined(ahead, numbered(most-start, most-at, most)), on(9, 9, append(l, run(most, most, most))...))
		if place < 63 { // of the one behind it
			ahead[3] = byte(place + 2)
			wantNoneHere(t, joined(ahead, numbered(most-start, most-at, 5, 1)), api.ErrRange)
			wantNoneHere(t, joined(ahead, numbered(most-start-1, most-at, 5, 1, 1)), api.ErrRange)
			wantGet(t, joined(ahead, numbered(most-start-1, most-at, 5, 1, 0, 6)), on(9, 9, append(l, run(most-1, most, 5), run(most, most, 6))...))
		}
	}
}

// A Set is no sum: each is as it stands.
func TestGetOfSets(t *testing.T) {
	for _, n := range append(numbers(), 0, most) {
		for _, m := range numbers() {
			wantGet(t, joined([]byte{9, 9, 0, 3}, numbered(1, 1, n, 1, 0, m, 1, 0, n)), on(9, 9, run(1, 1, n), run(2, 1, m), run(3, 1, n)))
		}
	}
}

func TestGetOfFailedAt(t *testing.T) {
	for _, next := range upTo(mostNext) {
		for _, n := range append(numbers(), next-1, next, next+1) {
			wantGet(t, joined(numbered(next, 7), []byte{1}, numbered(n)), failed(next, 7, n))
			wantNone(t, joined(numbered(next, mostLast+1), []byte{1}, numbered(n)), api.ErrArg)
		}
	}
}

// Bytes that are left are told, whether what stands ahead of them is written or not.
func TestGetOfBytesThatAreLeft(t *testing.T) {
	for i, s := range written() {
		for _, behind := range behinds()[1:] {
			if i%10 == 0 || len(behind) == 1 {
				wantNone(t, joined(writing(s), behind), api.ErrForm)
			}
		}
	}
	for _, s := range unwritten() {
		for _, behind := range behinds()[1:] {
			wantNone(t, joined(writing(s), behind), api.ErrForm)
		}
	}
}

// unwritten are states that aren't written only for what the whole tells.
func unwritten() []state {
	var all []state
	for _, n := range []uint64{mostNext + 1, mostNext + 2, 1 << 41, 1<<63 + 5, most} {
		for _, s := range bases() {
			all = append(all, changed(s, func(s *state) { s.Next = n }), changed(s, func(s *state) { s.Last = n }), changed(s, func(s *state) { s.Next, s.Last = n, n }))
		}
	}
	for _, n := range []int{2, 3, 64} {
		for place := 1; place < n; place++ {
			s := on(9, 9, row(n)...)
			for i := place; i < n; i++ {
				s.Runs[i].Start-- // the one at the place has that of the one ahead of it
			}
			all = append(all, s, changed(s, func(s *state) { s.Runs[place].At, s.Runs[place].Set = s.Runs[place-1].At, s.Runs[place-1].Set }))
		}
	}
	for _, start := range numbers() {
		all = append(all, on(9, 9, run(start, 1, 1), run(start, 1, 1)), on(9, 9, run(start, 1, 1), run(start, most, 2)))
	}
	return all
}

func TestGetOfWhatIsntWritten(t *testing.T) {
	for _, s := range unwritten() {
		if plainWritten(s) {
			t.Fatalf("%s is written", short(s))
		}
		wantNone(t, writing(s), api.ErrArg)
		wantNone(t, writing(s)[:len(writing(s))-1], api.ErrShort)
	}
}

// spoils are bytes that are none, for the place of a number, and their errors, told whatever is behind them.
func spoils() map[string]api.Errno {
	return map[string]api.Errno{
		"\xff\xff\xff\xff\xff\xff\xff\xff\xff\x02": api.ErrLong, "\x80\x80\x80\x80\x80\x80\x80\x80\x80\x80": api.ErrLong,
		"\x80\x00": api.ErrForm, "\xff\xff\x00": api.ErrForm,
	}
}

// fault is bytes, and their error.
type fault struct {
	bytes []byte
	errno api.Errno
}

// faultsAt are what can be wrong at a place of a list's writing, told whatever is behind it.
func faultsAt(place int) []fault {
	var all []fault
	if place == flagPlace {
		return []fault{{[]byte{2}, api.ErrForm}, {[]byte{0x80}, api.ErrForm}, {[]byte{255, 1}, api.ErrForm}}
	}
	for b, errno := range spoils() {
		all = append(all, fault{[]byte(b), errno})
	}
	if place == countPlace {
		all = append(all, fault{[]byte{65}, api.ErrMany}, fault{numbered(most), api.ErrMany})
	}
	if place >= secondPlace && (place-secondPlace)%3 < 2 { // a Start or an At
		all = append(all, fault{numbered(most), api.ErrRange})
	}
	return all
}

// Of two faults the one that stands ahead is told, and each ahead of what only the whole tells.
func TestGetTellsTheFrontError(t *testing.T) {
	all := parts(on(5, 9, run(1, 1, 1), run(2, 2, 2), run(3, 3, 4)))
	for place := range all {
		for _, first := range faultsAt(place) {
			ahead := joined(numbered(all[:place]...), first.bytes)
			wantNoneHere(t, ahead, first.errno)
			for later := place + 1; later < len(all); later++ {
				for _, second := range faultsAt(later) {
					wantNone(t, joined(ahead, numbered(all[place+1:later]...), second.bytes, numbered(all[later+1:]...)), first.errno)
				}
			}
			if place > 0 {
				great := slices.Clone(all[:place])
				great[0] = mostNext + 1
				wantNoneHere(t, joined(numbered(great...), first.bytes), first.errno)
			}
			if place > secondPlace {
				equal := slices.Clone(all[:place])
				equal[secondPlace] = 0 // the second Start is the first one's
				wantNoneHere(t, joined(numbered(equal...), first.bytes), first.errno)
			}
		}
	}
}

// likelyBytes are some that look like a state's writing, by noise, with places that are spoilt.
func likelyBytes(seed uint64) []byte {
	c := noise(seed, 6)
	s := on(step(c[0])%(mostNext+2), step(c[1])%(mostLast+2), climbing(c[2], int(c[3]%6), step(c[4]), step(c[5]))...)
	all := parts(s)
	switch c[5] % 8 {
	case 0:
		all = parts(failed(s.Next, s.Last, step(c[2])))
	case 1:
		all[c[4]>>8%uint64(len(all))] = step(c[2])
	case 2:
		all = parts(on(s.Next, s.Last, row(60+int(c[3]%6))...))
	}
	b := numbered(all...)
	at := c[4] >> 16 % uint64(len(b))
	switch c[4] % 8 {
	case 0:
		return b[:at]
	case 1:
		return joined(b, b[len(b)-1:])
	case 2:
		return joined(b[:at], b[at+1:])
	case 3:
		b[at] = []byte{0, 1, 2, 64, 65, 0x80, 0xff, byte(c[3])}[c[3]>>8%8]
	}
	return b
}

func TestGetOfLikelyBytes(t *testing.T) {
	told := map[api.Errno]int{}
	for seed := range uint64(40000) {
		told[getAsSaid(t, likelyBytes(seed))]++
	}
	for _, errno := range []api.Errno{api.OK, api.ErrShort, api.ErrForm, api.ErrMany, api.ErrRange, api.ErrArg} {
		if told[errno] < 20 {
			t.Errorf("%v came out only %d times", errno, told[errno])
		}
	}
}

// eachRow does something with all rows of n bytes of a choice.
func eachRow(choice []byte, n int, do func(b []byte)) {
	row, places := make([]byte, n), make([]int, n)
	for {
		for i, place := range places {
			row[i] = choice[place]
		}
		do(row)
		at := n - 1
		for ; at >= 0 && places[at] == len(choice)-1; at-- {
			places[at] = 0
		}
		if at < 0 {
			return
		}
		places[at]++
	}
}

func TestGetOfAllShortRows(t *testing.T) {
	told := map[api.Errno]int{}
	for n := range 6 {
		eachRow([]byte{0, 1, 2, 3, 64, 65, 0x7f, 0x80, 0x81, 255}, n, func(b []byte) { told[getAsSaid(t, b)]++ })
	}
	for n := range 11 {
		eachRow([]byte{0, 1, 2}, n, func(b []byte) { told[getAsSaid(t, joined([]byte{5}, b))]++ })
	}
	for _, errno := range []api.Errno{api.OK, api.ErrShort, api.ErrForm, api.ErrMany, api.ErrArg} {
		if told[errno] < 50 {
			t.Errorf("%v came out only %d times", errno, told[errno])
		}
	}
}

// P16.2

func TestWhatIsPutIsGotAsItWas(t *testing.T) {
	for _, s := range written() {
		got, errno := snap.Get(put(t, s))
		if !snap.Same(got, s) || !identical(got, s) || errno != api.OK {
			t.Errorf("%s came back as %s, %v", short(s), short(got), errno)
		}
	}
	for seed := range uint64(20000) {
		s := likelyState(seed)
		if b, errno := snap.Put(s); errno == api.OK {
			wantGet(t, b, s)
		}
	}
}

// putAsItStood wants what is got to be put as it stood; it tells whether something was got.
func putAsItStood(t *testing.T, b []byte) bool {
	t.Helper()
	s, errno := snap.Get(b)
	if errno != api.OK {
		return false
	}
	if got, errno := snap.Put(s); !bytes.Equal(got, b) || errno != api.OK {
		t.Errorf("Get(%x) = %s, which is put as %x, %v", b, short(s), got, errno)
	}
	return true
}

func TestWhatIsGotIsPutAsItStood(t *testing.T) {
	for _, s := range written() {
		if !putAsItStood(t, writing(s)) {
			t.Errorf("nothing is got from %x", writing(s))
		}
	}
	got := 0
	for seed := range uint64(40000) {
		if putAsItStood(t, likelyBytes(seed)) {
			got++
		}
	}
	for n := range 8 {
		eachRow([]byte{0, 1, 2, 0x80}, n, func(b []byte) {
			if putAsItStood(t, b) {
				got++
			}
		})
	}
	if got < 5000 {
		t.Errorf("only %d of the rows are states", got)
	}
}

// An engine goes on from where it was, as its state goes there and back at each event.
func TestStatesOfEngines(t *testing.T) {
	one := func(topic uint8) api.Node { return api.Node{Kind: api.One, Pred: api.Pred{Topic: topic}} }
	p := api.Pattern{Nodes: []api.Node{{Kind: api.Seq, Size: 3}, one(1), one(2), one(1)}, Window: 100}
	engine, errno := runs.New(p, 300)
	other := engine
	for i, c := range noise(7, 400) {
		if errno != api.OK {
			t.Fatal(errno)
		}
		l := api.Logged{At: uint64(3 * i), Event: api.Event{Topic: uint8(c % 3)}}
		want, wantErrno := engine.Feed(l)
		got, gotErrno := other.Feed(l)
		if !slices.Equal(want, got) || wantErrno != gotErrno {
			t.Fatalf("behind the event %d: %v, %v, want %v, %v", i, got, gotErrno, want, wantErrno)
		}
		s, e := snap.Get(put(t, engine.State()))
		if e != api.OK || !snap.Same(s, engine.State()) {
			t.Fatalf("the state %s came back as %s, %v", short(engine.State()), short(s), e)
		}
		other, errno = runs.Restore(p, s)
	}
}

// R1, R3, R5

// What is got stays, as the bytes are written over, which the getting left as they were.
func TestWhatIsGotSharesNothingWithTheBytes(t *testing.T) {
	for _, s := range written() {
		room := bytes.Repeat([]byte{0xaa}, len(writing(s))+40)
		b := room[:copy(room, writing(s))]
		got, errno := snap.Get(b)
		if !bytes.Equal(b, writing(s)) || !bytes.Equal(room[len(b):], bytes.Repeat([]byte{0xaa}, 40)) || errno != api.OK {
			t.Errorf("getting changed %x; %v", writing(s), errno)
		}
		for i := range b {
			b[i] = 'z'
		}
		if !identical(got, s) {
			t.Errorf("%s became %s, as the bytes were written over", short(s), short(got))
		}
	}
}

func TestWhatIsRefusedStays(t *testing.T) {
	for seed := range uint64(5000) {
		b := likelyBytes(seed)
		was := slices.Clone(b)
		s, errno := snap.Get(b)
		if !bytes.Equal(b, was) {
			t.Errorf("getting changed %x to %x", was, b)
		}
		if again, f := snap.Get(b); !identical(s, again) || errno != f {
			t.Errorf("Get(%x) answers otherwise the second time", b)
		}
	}
}

// Two that are got from the same bytes have lists of their own.
func TestWhatIsGotTwiceSharesNothing(t *testing.T) {
	for _, s := range written() {
		one, _ := snap.Get(writing(s))
		two, _ := snap.Get(writing(s))
		over := one.Runs[:cap(one.Runs)]
		for i := range over {
			over[i] = run(9, 9, 9)
		}
		if !identical(two, s) {
			t.Errorf("%s became %s", short(s), short(two))
		}
		wantGet(t, writing(s), s)
	}
}

// Any bytes are answered as the chapter says, and come back as they stood.
func FuzzAnyBytes(f *testing.F) {
	for seed := range uint64(200) {
		f.Add(likelyBytes(seed))
	}
	for b := range knownStates() {
		f.Add([]byte(b))
	}
	f.Fuzz(func(t *testing.T, b []byte) {
		getAsSaid(t, b)
		putAsItStood(t, b)
	})
}
