package pred_test

import (
	"bytes"
	"math"
	"slices"
	"testing"

	"equerry/api"
	"equerry/pred"
)

// fronts are bytes that a writing stands behind.
func fronts() [][]byte {
	return [][]byte{nil, {}, {0}, {3}, {0x80}, {0xff, 0xff}, []byte("front"), bytes.Repeat([]byte{0x80}, 300)}
}

// behinds are bytes that stand behind a writing.
func behinds() [][]byte {
	return [][]byte{nil, {0}, {1}, {0x80}, {0xff}, []byte("behind"), bytes.Repeat([]byte{0xff}, 300)}
}

// P10.1: Put

// putAsSaid wants what the chapter says of bytes and a question.
func putAsSaid(t *testing.T, b []byte, p api.Pred) {
	t.Helper()
	want, errno := []byte(nil), api.ErrArg
	if plainMay(p) {
		want, errno = joined(b, plainPut(p)), api.OK
	}
	if got, f := pred.Put(b, p); !bytes.Equal(got, want) || f != errno {
		t.Errorf("Put(%.20x of %d, %s) = %x, %v, want %x, %v", b, len(b), short(p), got, f, want, errno)
	}
}

// put is the writing of a question that may be.
func put(t testing.TB, b []byte, p api.Pred) []byte {
	t.Helper()
	got, errno := pred.Put(b, p)
	if errno != api.OK {
		t.Fatalf("Put of %s = %v", short(p), errno)
	}
	return got
}

func TestPutOfKnownQuestions(t *testing.T) {
	for want, p := range map[string]api.Pred{
		"\x00\x00":                             {},
		"\x00\x05":                             asked(5),
		"\x00\xff":                             asked(255),
		"\x01":                                 ofAny(),
		"\x11\x00\x07\x00":                     ofAny(test(0, api.Has, api.Value{})),
		"\x10\x09\xff\x08\x03\x02ab":           asked(9, test(255, api.Begins, text("ab"))),
		"\x20\x05\x01\x03\x01\x01\x00\x07\x00": asked(5, test(1, api.Lt, whole(-1)), test(0, api.Has, api.Value{})),
		"\x21\x02\x01\x01\xd8\x04\x03\x02\x02\x7f\xf8\x00\x00\x00\x00\x00\x00":                     ofAny(test(2, api.Eq, whole(300)), test(3, api.Ne, number(math.NaN()))),
		"\x30\x00\x00\x04\x01\x02\x00\x05\x03\x00\x00\x06\x02\x3f\xd0\x00\x00\x00\x00\x00\x00":     asked(0, test(0, api.Le, whole(1)), test(0, api.Gt, text("")), test(0, api.Ge, number(0.25))),
		"\x41\x00\x07\x00\x01\x07\x00\x02\x07\x00\x03\x07\x00":                                     ofAny(test(0, api.Has, api.Value{}), test(1, api.Has, api.Value{}), test(2, api.Has, api.Value{}), test(3, api.Has, api.Value{})),
		"\x40\x80\x00\x07\x00\x01\x07\x00\x02\x07\x00\x03\x02\x02\x80\x00\x00\x00\x00\x00\x00\x00": asked(128, test(0, api.Has, api.Value{}), test(1, api.Has, api.Value{}), test(2, api.Has, api.Value{}), test(3, api.Ne, number(minus()))),
		"\x10\x07\x00\x02\x03\xff\x01" + long(255):                                                 asked(7, test(0, api.Ne, text(long(255)))),
		"\x10\x07\x80\x01\x01\xff\xff\xff\xff\xff\xff\xff\xff\xff\x01":                             asked(7, test(128, api.Eq, whole(math.MinInt64))),
	} {
		if got := put(t, nil, p); string(got) != want {
			t.Errorf("Put of %s = %x, want %x", short(p), got, want)
		}
	}
}

func TestPutOfAll(t *testing.T) {
	for _, p := range preds() {
		for _, front := range fronts() {
			putAsSaid(t, front, p)
		}
	}
}

func TestPutOfWhatMayNotBe(t *testing.T) {
	for _, p := range wrongPreds() {
		for _, front := range fronts() {
			if got, errno := pred.Put(front, p); len(got) != 0 || errno != api.ErrArg {
				t.Errorf("Put(%.20x, %s) = %x, %v", front, short(p), got, errno)
			}
		}
	}
}

// P10.1: Get

// wantGet wants a question to the last bit, a place and an error.
func wantGet(t *testing.T, b []byte, at int, p api.Pred, end int, errno api.Errno) {
	t.Helper()
	got, next, f := pred.Get(b, at)
	if !identical(got, p) || next != end || f != errno {
		t.Errorf("Get(%.60x of %d, %d) = %s, %d, %v, want %s, %d, %v", b, len(b), at, short(got), next, f, short(p), end, errno)
	}
}

// wantError wants an error, and nothing beside it, wherever the row stands.
func wantError(t *testing.T, row []byte, errno api.Errno) {
	t.Helper()
	wantGet(t, row, 0, api.Pred{}, 0, errno)
	wantGet(t, joined([]byte("\x01front"), row), 6, api.Pred{}, 0, errno)
}

// getAsSaid wants what the chapter says of a place.
func getAsSaid(t *testing.T, b []byte, at int) {
	t.Helper()
	if at < 0 || at > len(b) {
		wantGet(t, b, at, api.Pred{}, 0, api.ErrShort)
		return
	}
	p, size, errno := plainGet(b[at:])
	if errno == api.OK {
		size += at
	}
	wantGet(t, b, at, p, size, errno)
}

func TestGetOfAll(t *testing.T) {
	for _, p := range preds() {
		row := plainPut(p)
		for _, front := range fronts() {
			for _, behind := range behinds() {
				wantGet(t, joined(front, row, behind), len(front), plainPred(p), len(front)+len(row), api.OK)
			}
		}
	}
}

func TestGetAtPlacesThatAreNone(t *testing.T) {
	room := bytes.Repeat([]byte{1}, 64)
	for _, b := range [][]byte{nil, {}, {1}, {0, 0}, {1, 1}, {2}, {0x51}, []byte("\x11\x00\x07\x00"), room[:0], room[:1], room[:2], room} {
		for _, at := range []int{len(b), len(b) + 1, len(b) + 2, len(b) + 9, 1 << 31, 1 << 32, math.MaxInt - 2, math.MaxInt - 1, math.MaxInt, -1, -2, -9, -1 << 31, -1 << 32, math.MinInt, math.MinInt + 1} {
			wantGet(t, b, at, api.Pred{}, 0, api.ErrShort)
		}
	}
}

// The last byte is a place as each other one is.
func TestGetAtTheLastByte(t *testing.T) {
	for _, front := range fronts() {
		wantGet(t, joined(front, []byte{1}), len(front), ofAny(), len(front)+1, api.OK)
		wantGet(t, joined(front, []byte{0}), len(front), api.Pred{}, 0, api.ErrShort) // no topic
		wantGet(t, joined(front, []byte{0, 7}), len(front), asked(7), len(front)+2, api.OK)
	}
}

// All first bytes there are, with nothing, a little, and much behind them.
func TestGetOfEachFirstByte(t *testing.T) {
	for first := range 256 {
		for _, rest := range [][]byte{nil, {0}, {7}, {0, 7}, {7, 0}, {0, 7, 0}, {9, 0, 7, 0}, bytes.Repeat([]byte{0, 7, 0}, 20), bytes.Repeat([]byte{7, 0, 0}, 20), make([]byte, 60), bytes.Repeat([]byte{0xff}, 60)} {
			getAsSaid(t, joined([]byte{byte(first)}, rest), 0)
		}
	}
}

// A bit that stands for nothing is told ahead of all that is wrong besides.
func TestGetOfFirstBytesWithOtherBits(t *testing.T) {
	for first := range 256 {
		if first&14 == 0 {
			continue
		}
		wantError(t, []byte{byte(first)}, api.ErrForm)
		for _, behind := range append(behinds(), plainPut(asked(7))[1:], []byte{7, 0, 7, 0}, []byte{0, 7, 0}, make([]byte, 60)) {
			wantError(t, joined([]byte{byte(first)}, behind), api.ErrForm)
		}
	}
}

func TestGetOfTooManyTests(t *testing.T) {
	for n := 5; n < 16; n++ {
		tests := bytes.Repeat([]byte{0, 7, 0}, n)
		for _, behind := range append(behinds(), []byte{7, 0, 0, 0}, []byte{7, 0, 1, 9}) {
			wantError(t, joined([]byte{byte(16 * n)}, behind), api.ErrMany)
			wantError(t, joined([]byte{byte(16*n + 1)}, behind), api.ErrMany)
		}
		wantError(t, joined([]byte{byte(16 * n), 7}, tests), api.ErrMany)
		wantError(t, joined([]byte{byte(16*n + 1)}, tests), api.ErrMany)
	}
	for n := range 5 {
		tests := slices.Repeat([]api.Test{test(0, api.Has, api.Value{})}, n)
		wantGet(t, joined([]byte{byte(16 * n), 7}, bytes.Repeat([]byte{0, 7, 0}, n)), 0, asked(7, tests...), 2+3*n, api.OK)
		wantGet(t, joined([]byte{byte(16*n + 1)}, bytes.Repeat([]byte{0, 7, 0}, n)), 0, ofAny(tests...), 1+3*n, api.OK)
	}
}

func TestGetOfEachTopic(t *testing.T) {
	for topic := range 256 {
		wantGet(t, []byte{0, byte(topic)}, 0, asked(uint8(topic)), 2, api.OK)
		wantGet(t, []byte{0x10, byte(topic), 9, 7, 0}, 0, asked(uint8(topic), test(9, api.Has, api.Value{})), 5, api.OK)
	}
}

// Without a topic that is there, it is of any number of tests the same.
func TestGetOfNoTopic(t *testing.T) {
	for n := range 5 {
		wantError(t, []byte{byte(16 * n)}, api.ErrShort)
	}
}

// A topic, a field, an Op or a value that isn't there as a whole.
func TestGetOfTooFewBytes(t *testing.T) {
	for _, p := range preds() {
		row := plainPut(p)
		for have := range row {
			wantGet(t, row[:have], 0, api.Pred{}, 0, api.ErrShort) // what is behind the length doesn't count
			wantGet(t, joined([]byte("\x01front"), row[:have]), 6, api.Pred{}, 0, api.ErrShort)
		}
	}
}

// broken is the beginning of a test whose value is none, and its error.
type broken struct {
	row   []byte
	errno api.Errno
}

// brokens are tests that layer 4 has errors of, whatever stands behind them, and whatever their Op.
func brokens() []broken {
	nine := bytes.Repeat([]byte{0xff}, 9)
	all := []broken{
		{[]byte{4}, api.ErrKind}, {[]byte{9}, api.ErrKind}, {[]byte{128}, api.ErrKind}, {[]byte{255}, api.ErrKind},
		{[]byte{1, 0x80, 0}, api.ErrForm}, {joined([]byte{1}, nine, []byte{0}), api.ErrForm}, {joined([]byte{1}, nine, []byte{2}), api.ErrLong}, {joined([]byte{1}, nine, []byte{0x81}), api.ErrLong},
		{[]byte{3, 0x80, 2}, api.ErrLong}, {[]byte{3, 0x80, 0x80, 4}, api.ErrLong}, {joined([]byte{3}, nine, []byte{1}), api.ErrLong}, {joined([]byte{3}, nine, []byte{2}), api.ErrLong}, {[]byte{3, 0x81, 0}, api.ErrForm},
	}
	for _, bits := range otherNaNs() {
		all = append(all, broken{joined([]byte{2}, highestFirst(bits)), api.ErrForm})
	}
	var tests []broken
	for i, c := range all {
		for _, op := range []byte{0, 1, 7, 8, 9, 255} {
			tests = append(tests, broken{joined([]byte{byte(i * 11), op}, c.row), c.errno})
		}
	}
	return tests
}

// ahead is a writing's beginning, of a question of n tests, up to and with some of them.
func ahead(p api.Pred, n int) []byte {
	row := plainPut(p)
	row[0] = row[0]&1 | byte(16*n)
	return row
}

func TestGetOfBrokenTestsAtEachPlace(t *testing.T) {
	for i, c := range brokens() {
		for n := 1; n <= most; n++ {
			for at := range n {
				for _, p := range []api.Pred{asked(uint8(i), someTests(i, at)...), ofAny(someTests(i, at)...)} {
					wantError(t, joined(ahead(p, n), c.row), c.errno)
					wantError(t, joined(ahead(p, n), c.row, make([]byte, 300)), c.errno)
				}
			}
		}
	}
}

// The first test whose value is none tells the error, whatever is wrong with the next one.
func TestGetTellsTheFrontError(t *testing.T) {
	for _, c := range brokens() {
		for _, d := range brokens() {
			wantGet(t, joined([]byte{0x31, 0, 7, 0}, c.row, d.row), 0, api.Pred{}, 0, c.errno)
		}
		wantError(t, joined([]byte{0x50, 7}, c.row), api.ErrMany)
		wantError(t, joined([]byte{0x12, 7}, c.row), api.ErrForm)
	}
	wantError(t, []byte{0x21, 0, 1, 4}, api.ErrKind)
	wantError(t, []byte{0x21, 0, 1, 1, 0x80}, api.ErrShort)
	wantError(t, []byte{0x21, 0, 7, 0, 0}, api.ErrShort)    // no Op
	wantError(t, []byte{0x21, 0, 7, 0, 0, 7}, api.ErrShort) // no value
	wantError(t, []byte{0x20, 7, 0, 7, 0}, api.ErrShort)    // no field
	wantError(t, []byte{0x52}, api.ErrForm)
	wantError(t, []byte{0xff}, api.ErrForm)
	wantError(t, []byte{0x50}, api.ErrMany)
	wantError(t, []byte{0x40}, api.ErrShort)
}

// wrongWritings are the writings of tests that may not be, whose values may.
func wrongWritings() [][]byte {
	var all [][]byte
	for _, w := range wrongTests() {
		if plainMayValue(w.Value) {
			all = append(all, joined([]byte{w.Field, w.Op}, plainPutValue(w.Value)))
		}
	}
	return all
}

func TestGetOfWhatMayNotBe(t *testing.T) {
	for i, w := range wrongWritings() {
		for n := 1; n <= most; n++ {
			for at := range n {
				head, rest := asked(uint8(i), someTests(i, at)...), plainPut(ofAny(someTests(i+5, n-at-1)...))[1:]
				wantError(t, joined(ahead(head, n), w, rest), api.ErrArg)
				wantError(t, joined(ahead(ofAny(head.Tests...), n), w, rest, []byte("behind")), api.ErrArg)
			}
		}
	}
}

// Whether a question may be is told behind all that isn't there, or is none, of a later test.
func TestGetTellsLastWhatMayNotBe(t *testing.T) {
	for _, w := range wrongWritings() {
		wantError(t, joined([]byte{0x11}, w), api.ErrArg)
		wantError(t, joined([]byte{0x21}, w), api.ErrShort)
		wantError(t, joined([]byte{0x21}, w, []byte{0}), api.ErrShort)
		wantError(t, joined([]byte{0x21}, w, []byte{0, 0}), api.ErrShort)
		wantError(t, joined([]byte{0x20, 7}, w, []byte{0, 0, 1}), api.ErrShort)
		wantError(t, joined([]byte{0x20, 7}, w, []byte{0, 0, 9}), api.ErrKind)
		wantError(t, joined([]byte{0x20, 7}, w, []byte{0, 0, 0}), api.ErrArg)
		wantError(t, joined([]byte{0x31}, w, []byte{0, 7, 0, 1, 7, 3, 0x80, 2}), api.ErrLong)
		wantError(t, joined([]byte{0x31}, w, []byte{0, 7, 0, 1, 7, 1, 0x80, 0}), api.ErrForm)
	}
}

// likelyBytes are a row that looks like a question's writing, by noise, with places that are spoilt.
func likelyBytes(seed uint64) []byte {
	n := noise(seed, 4)
	tests := someTests(int(n[1]%1000), int(n[2]%5))
	row := plainPut(asked(byte(n[0]), tests...))
	if n[2]>>8%2 == 0 {
		row = plainPut(ofAny(tests...))
	}
	if n[3]%3 > 0 {
		row[int(n[3]>>8%1000)%len(row)] = byte(n[3] >> 40)
	}
	if n[3]%5 == 0 {
		row = row[:int(n[3]>>16%1000)%len(row)]
	}
	return row
}

// anyRows are rows of all bytes at the edges, and such as look like writings.
func anyRows() [][]byte {
	edges := []byte{0, 1, 3, 7, 8, 9, 0x10, 0x11, 0x21, 0x80, 0xff}
	var all [][]byte
	for _, a := range edges {
		for _, b := range edges {
			for _, c := range edges {
				for _, d := range edges {
					all = append(all, []byte{a, b, c, d}, []byte{0x11, 0, a, b, c, d, 1, 1})
				}
			}
		}
	}
	for i := range 3000 {
		all = append(all, likelyBytes(uint64(i)))
	}
	return all
}

func TestGetOfAnyBytes(t *testing.T) {
	for _, b := range anyRows() {
		for at := range min(len(b), 12) {
			getAsSaid(t, b, at)
		}
	}
}

// P10.2

func TestWhatIsPutIsGotAsItWas(t *testing.T) {
	for _, p := range preds() {
		for _, front := range fronts() {
			b := put(t, front, p)
			got, end, errno := pred.Get(b, len(front))
			if !pred.Same(got, p) || !plainSame(got, p) || !pred.May(got) || end != len(b) || errno != api.OK {
				t.Errorf("%s came back as %s, %d of %d, %v", short(p), short(got), end, len(b), errno)
			}
		}
	}
}

// Questions one behind the other: each is got where the last one ended.
func TestWhatIsPutIsGotWhereverItStands(t *testing.T) {
	var row []byte
	for _, p := range preds() {
		row = put(t, row, p)
	}
	at := 0
	for _, p := range preds() {
		got, end, errno := pred.Get(row, at)
		if !pred.Same(got, p) || errno != api.OK {
			t.Fatalf("at %d stands %s, %v, want %s", at, short(got), errno, short(p))
		}
		at = end
	}
	if at != len(row) {
		t.Errorf("the last ends at %d of %d", at, len(row))
	}
}

// putAsItStood wants what is got to be one that may be, and to be put as it stood; it tells whether something was got.
func putAsItStood(t *testing.T, b []byte, at int) bool {
	t.Helper()
	p, end, errno := pred.Get(b, at)
	if errno != api.OK {
		return false
	}
	if !pred.May(p) || !plainMay(p) || end <= at || end > len(b) || !bytes.Equal(put(t, nil, p), b[at:end]) {
		t.Errorf("Get(%x, %d) = %s, %d", b, at, short(p), end)
	}
	return true
}

func TestWhatIsGotIsPutAsItStood(t *testing.T) {
	got := 0
	for _, b := range anyRows() {
		for at := range min(len(b), 12) {
			if putAsItStood(t, b, at) {
				got++
			}
		}
	}
	if got < 1000 {
		t.Errorf("only %d of the rows are questions", got)
	}
}

// R3, R4, R5

func TestWhatIsPutLiesInNewMemory(t *testing.T) {
	const size = 4096
	for _, p := range preds() {
		room := bytes.Repeat([]byte{0xaa}, size)
		got := put(t, room[:5], p) // it would fit behind them
		want := bytes.Clone(got)
		if !bytes.Equal(room, bytes.Repeat([]byte{0xaa}, size)) {
			t.Errorf("Put of %s writes into what was handed in", short(p))
		}
		for k := range room {
			room[k] = 0x55
		}
		if !bytes.Equal(got, want) {
			t.Errorf("Put of %s answers memory that was handed in", short(p))
		}
		for k := range got {
			got[k] = 0x77
		}
		if !bytes.Equal(room, bytes.Repeat([]byte{0x55}, size)) {
			t.Errorf("Put of %s answers memory that was handed in", short(p))
		}
	}
}

func TestPutOfWhatMayNotBeLeavesWhatWasHandedIn(t *testing.T) {
	for _, p := range wrongPreds() {
		room := bytes.Repeat([]byte{0xaa}, 400)
		pred.Put(room[:5], p)
		if !bytes.Equal(room, bytes.Repeat([]byte{0xaa}, 400)) {
			t.Errorf("Put of %s writes into what was handed in", short(p))
		}
	}
}

func TestTwoPutsBehindOneRowShareNothing(t *testing.T) {
	first, later := asked(1, test(0, api.Begins, text("front"))), asked(2, test(7, api.Eq, whole(77)))
	for _, p := range preds() {
		front := put(t, nil, first)
		a, b := put(t, front, p), put(t, front, later)
		for k := range b {
			b[k] = 0xee
		}
		if !bytes.Equal(a, joined(plainPut(first), plainPut(p))) || !bytes.Equal(front, plainPut(first)) {
			t.Errorf("what is put later behind the same row changes %s to %x", short(p), a)
		}
	}
}

// Tests aren't kept: a row that was put stays, when the list is written over.
func TestTestsThatAreHandedInAreNotKept(t *testing.T) {
	for _, p := range preds() {
		handed := copied(p)
		got := put(t, nil, handed)
		for i := range handed.Tests {
			handed.Tests[i] = test(9, api.Eq, text("later"))
		}
		if !bytes.Equal(got, plainPut(p)) {
			t.Errorf("the writing of %s became %x", short(p), got)
		}
	}
}

func TestWhatIsGotFromStays(t *testing.T) {
	for _, p := range preds() {
		b := joined(plainPut(p), []byte("behind"))
		was := bytes.Clone(b)
		got, _, errno := pred.Get(b, 0)
		if !bytes.Equal(b, was) || errno != api.OK {
			t.Errorf("getting changed %x to %x; %v", was, b, errno)
		}
		for i := range b {
			b[i] = 'z'
		}
		if !identical(got, plainPred(p)) {
			t.Errorf("%s became %s, as the bytes were written over", short(p), short(got))
		}
	}
}

// Two that are got from the same bytes have lists of their own.
func TestWhatIsGotTwiceSharesNothing(t *testing.T) {
	for _, p := range preds() {
		b := plainPut(p)
		one, _, _ := pred.Get(b, 0)
		two, _, _ := pred.Get(b, 0)
		for i := range one.Tests {
			one.Tests[i] = test(9, api.Eq, text("other"))
		}
		if !identical(two, plainPred(p)) {
			t.Errorf("%s became %s", short(p), short(two))
		}
	}
}

func TestTheSameIsAnsweredAgain(t *testing.T) {
	for _, b := range anyRows() {
		p, end, errno := pred.Get(b, 0)
		if q, next, f := pred.Get(b, 0); !identical(p, q) || end != next || errno != f {
			t.Errorf("Get(%x) answers otherwise the second time", b)
		}
	}
}

// R1: any bytes, at any place, are answered as the chapter says, and come back as they stood.
func FuzzAnyBytes(f *testing.F) {
	for i, p := range preds() {
		f.Add(plainPut(p), i%4)
	}
	for _, w := range wrongWritings() {
		f.Add(joined([]byte{0x11}, w), 0)
	}
	f.Add([]byte{0x52}, 0)
	f.Add([]byte{}, -1)
	f.Add([]byte{1}, math.MaxInt)
	f.Fuzz(func(t *testing.T, b []byte, at int) {
		getAsSaid(t, b, at)
		putAsItStood(t, b, at)
	})
}
