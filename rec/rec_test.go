package rec_test

import (
	"bytes"
	"encoding/binary"
	"fmt"
	"hash/crc32"
	"math"
	"slices"
	"testing"

	"equerry/api"
	"equerry/rec"
)

// put is Put where it must be taken.
func put(t *testing.T, b, record []byte) []byte {
	t.Helper()
	got, errno := rec.Put(b, record)
	if errno != api.OK {
		t.Fatalf("Put of %d bytes behind %d: %d", len(record), len(b), int(errno))
	}
	return got
}

func wantGet(t *testing.T, what string, b []byte, at int, want answer) {
	t.Helper()
	if got := asAnswer(rec.Get(b, at)); got != want {
		t.Errorf("%s: Get of %d bytes at %d: %v, not %v", what, len(b), at, got, want)
	}
}

// wantNone is wantGet where there is no whole record: then nothing is told but the error.
func wantNone(t *testing.T, what string, b []byte, at int, want api.Errno) {
	t.Helper()
	wantGet(t, what, b, at, answer{errno: want})
}

func wantScan(t *testing.T, what string, b []byte, want [][]byte, end int) {
	t.Helper()
	if got, stop := rec.Scan(b); stop != end || !sameRecords(got, want) {
		t.Errorf("%s: Scan of %d bytes: %d records up to %d, not %d up to %d", what, len(b), len(got), stop, len(want), end)
	}
}

// P8.1: Put, Size

func TestTheChaptersExample(t *testing.T) {
	want := []byte{0, 0, 0, 1, 0xe5, 0x8c, 0x97, 0x92, 'a'}
	if got := put(t, nil, []byte("a")); !bytes.Equal(got, want) {
		t.Errorf("Put of \"a\": % x, not % x", got, want)
	}
	wantGet(t, "the example", want, 0, answer{"a", 9, api.OK})
}

func TestFrameOfNothing(t *testing.T) {
	want := []byte{0, 0, 0, 0, 0x21, 0x44, 0xdf, 0x1c}
	for _, none := range [][]byte{nil, {}} {
		if got := put(t, nil, none); !bytes.Equal(got, want) {
			t.Errorf("Put of nothing: % x, not % x", got, want)
		}
	}
	wantGet(t, "nothing", want, 0, answer{"", 8, api.OK})
	wantScan(t, "nothing", want, [][]byte{{}}, 8)
}

func TestPutOfEachRecordBehindAllFronts(t *testing.T) {
	for _, record := range records() {
		for _, front := range fronts() {
			if got := put(t, front, record); !bytes.Equal(got, joined(front, plainFrame(record))) {
				t.Errorf("Put of %d bytes behind %d isn't the front and the frame", len(record), len(front))
			}
		}
	}
}

func TestPutOfTooLong(t *testing.T) {
	for _, n := range []int{api.MaxRecord + 1, api.MaxRecord + 2, 2 * api.MaxRecord, 1<<24 + 1} {
		for _, front := range fronts() {
			got, errno := rec.Put(front, make([]byte, n))
			wantErrno(t, fmt.Sprintf("Put of %d bytes", n), errno, api.ErrLong)
			if len(got) > 0 {
				t.Errorf("Put of %d bytes, which are too many: %d bytes", n, len(got))
			}
		}
	}
}

func TestSizeIsTheFrames(t *testing.T) {
	for _, record := range records() {
		if got := rec.Size(record); got != 8+len(record) || got != len(put(t, nil, record)) {
			t.Errorf("Size of %d bytes: %d", len(record), got)
		}
	}
}

// Size has no error to tell: of what is too long it goes on counting.
func TestSizeOfTooLong(t *testing.T) {
	for _, n := range []int{api.MaxRecord + 1, 1 << 20} {
		if got := rec.Size(make([]byte, n)); got != 8+n {
			t.Errorf("Size of %d bytes: %d", n, got)
		}
	}
}

// P8.1: Get

func TestPlacesThatAreNone(t *testing.T) {
	for _, b := range [][]byte{nil, {}, {0}, plainFrame(nil), plainFrame([]byte("hello")), make([]byte, 100), bytes.Repeat([]byte{0xff}, 100)} {
		for _, at := range []int{math.MinInt, math.MinInt + 1, math.MinInt32, -len(b) - 1, -9, -8, -4, -1, len(b), len(b) + 1, len(b) + 8, math.MaxInt32, math.MaxInt - 8, math.MaxInt - 3, math.MaxInt} {
			if at != 0 || len(b) == 0 {
				wantNone(t, "a place that is none", b, at, api.ErrShort)
			}
		}
	}
}

func TestGetBehindFronts(t *testing.T) {
	for _, record := range records() {
		for _, front := range fronts() {
			end := len(front) + 8 + len(record)
			for _, behind := range append(behinds(), nil, plainFrame([]byte("next"))) {
				wantGet(t, "a frame between others", joined(front, plainFrame(record), behind), len(front), answer{string(record), end, api.OK})
			}
		}
	}
}

func TestBytesThatEndAheadOfTheFramesEnd(t *testing.T) {
	for _, record := range small() {
		for _, front := range [][]byte{nil, []byte("x"), plainFrame([]byte("a"))} {
			b := joined(front, plainFrame(record))
			for end := len(front); end < len(b); end++ {
				wantNone(t, "a frame that is cut", b[:end], len(front), api.ErrShort)
			}
			wantGet(t, "a whole one", b, len(front), answer{string(record), len(b), api.OK})
		}
	}
	for _, record := range great() {
		frame := plainFrame(record)
		for _, end := range []int{0, 3, 4, 7, 8, 9, len(frame) / 2, len(frame) - 2, len(frame) - 1} {
			wantNone(t, "a great frame that is cut", frame[:end], 0, api.ErrShort)
		}
	}
}

func TestGreatestLength(t *testing.T) {
	record := noise(1, api.MaxRecord)
	frame := plainFrame(record)
	wantNone(t, "only the length", []byte{0, 1, 0, 0}, 0, api.ErrShort)
	wantNone(t, "length and sum", frame[:8], 0, api.ErrShort)
	wantNone(t, "all but a byte", frame[:len(frame)-1], 0, api.ErrShort)
	wantGet(t, "all of it", frame, 0, answer{string(record), 8 + api.MaxRecord, api.OK})
	frame[7]++
	wantNone(t, "all of it, with another sum", frame, 0, api.ErrSum)
}

func TestLengthsThatAreTooGreat(t *testing.T) {
	for _, n := range []uint32{api.MaxRecord + 1, api.MaxRecord + 2, 1<<17 - 1, 1 << 17, 1 << 24, 1<<24 + 5, 1<<31 - 1, 1 << 31, 1<<31 + 1, 0xfffffff7, 0xfffffff8, 0xfffffffb, 0xfffffffe, 0xffffffff} {
		length := binary.BigEndian.AppendUint32(nil, n)
		for _, behind := range [][]byte{nil, {0}, make([]byte, 3), make([]byte, 4), make([]byte, 5), noise(uint64(n), 300)} {
			wantNone(t, "too great a length", joined(length, behind), 0, api.ErrLong)
			wantNone(t, "too great a length", joined([]byte("x"), length, behind), 1, api.ErrLong)
			wantScan(t, "too great a length", joined(length, behind), nil, 0)
		}
		for cut := range 4 {
			wantNone(t, "too great a length that is cut", length[:cut], 0, api.ErrShort)
		}
	}
}

func TestTooLongWithAllItsBytes(t *testing.T) {
	for _, n := range []int{api.MaxRecord + 1, api.MaxRecord + 255, 2 * api.MaxRecord, 1 << 20} {
		frame := plainFrame(noise(uint64(n), n))
		wantNone(t, "a frame of too much", frame, 0, api.ErrLong)
		wantScan(t, "a frame of too much", frame, nil, 0)
	}
}

// A frame that is too long, and cut, and of another sum: each error hides those behind it.
func TestWhichErrorComesFirst(t *testing.T) {
	long := plainFrame(noise(3, api.MaxRecord+1))
	long[4]++
	wantNone(t, "long, of another sum", long, 0, api.ErrLong)
	wantNone(t, "long, cut, of another sum", long[:100], 0, api.ErrLong)
	wantNone(t, "long, cut within the sum", long[:6], 0, api.ErrLong)
	wantNone(t, "cut within the length, which would be long", []byte{0xff, 0xff, 0xff}, 0, api.ErrShort)
	short := plainFrame([]byte("hello"))
	short[4]++
	for end := range len(short) {
		wantNone(t, "cut, of another sum", short[:end], 0, api.ErrShort)
	}
	wantNone(t, "of another sum", short, 0, api.ErrSum)
}

func TestSumsThatAreOthers(t *testing.T) {
	for _, record := range small() {
		for at := 4; at < 8; at++ {
			for by := 1; by < 256; by++ {
				frame := plainFrame(record)
				frame[at] ^= byte(by)
				wantNone(t, "a byte of the sum", frame, 0, api.ErrSum)
			}
		}
	}
}

// Sums that one could take instead of the chapter's: of the record alone, of another order, of the sum's lowest byte first, of the length's.
func TestSumsOfSomethingElse(t *testing.T) {
	for _, record := range small()[2:] {
		length := binary.BigEndian.AppendUint32(nil, uint32(len(record)))
		lowFirst := binary.LittleEndian.AppendUint32(nil, uint32(len(record)))
		for i, b := range [][]byte{record, joined(record, length), joined(lowFirst, record), length, nil, joined(length, make([]byte, 4), record)} {
			frame := joined(length, binary.BigEndian.AppendUint32(nil, crc32.ChecksumIEEE(b)), record)
			wantNone(t, fmt.Sprint("sum ", i), frame, 0, api.ErrSum)
		}
		frame := plainFrame(record)
		slices.Reverse(frame[4:8])
		wantNone(t, "the sum turned round", frame, 0, api.ErrSum)
	}
}

func TestLengthsThatAreOthers(t *testing.T) {
	for _, record := range small() {
		row := joined(plainFrame(record), noise(7, 600))
		for n := range uint32(500) {
			if int(n) == len(record) {
				continue
			}
			binary.BigEndian.PutUint32(row, n)
			wantNone(t, "another length", row, 0, api.ErrSum)
		}
	}
}

func TestRecordsThatAreOthers(t *testing.T) {
	for _, record := range small() {
		for at := range record {
			for _, by := range []byte{1, 2, 0x40, 0x80, 0xff} {
				frame := plainFrame(record)
				frame[8+at] ^= by
				wantNone(t, "another byte of the record", frame, 0, api.ErrSum)
			}
		}
	}
}

// All places of rows of frames, of which bytes here and there are other ones: so lengths and sums are read out of what was meant otherwise.
func TestGetAndScanOfAnyBytes(t *testing.T) {
	for seed := range uint64(400) {
		b := plainRow([][]byte{noise(seed, int(seed%7)), nil, noise(seed+1, int(seed%13)), []byte("last")})
		for i, c := range noise(seed+2, int(seed%5)) {
			b[(int(c)+61*i)%len(b)] ^= c | 1
		}
		for at := -2; at <= len(b)+2; at++ {
			wantGet(t, fmt.Sprint("row ", seed), b, at, asAnswer(plainGet(b, at)))
		}
		want, end := plainScan(b)
		wantScan(t, fmt.Sprint("row ", seed), b, want, end)
	}
}

// All rows of up to ten bytes 0 and 1, which make lengths of all kinds.
func TestGetOfAllShortRows(t *testing.T) {
	for n := range 11 {
		row := make([]byte, n)
		for i := range 1 << n {
			for at := range row {
				row[at] = byte(i >> at & 1)
			}
			for at := range n + 1 {
				wantGet(t, "a short row", row, at, asAnswer(plainGet(row, at)))
			}
		}
	}
}

// P8.1: Scan

func TestScanOfNoFrames(t *testing.T) {
	for _, b := range append(behinds(), nil, []byte{}) {
		wantScan(t, "no frame", b, nil, 0)
	}
}

func TestScanOfOneFrame(t *testing.T) {
	for _, record := range records() {
		wantScan(t, "one frame", plainFrame(record), [][]byte{record}, 8+len(record))
	}
}

func TestScanWithSomethingBehind(t *testing.T) {
	for _, all := range [][][]byte{nil, {[]byte("a")}, small(), great()} {
		row := plainRow(all)
		for _, behind := range behinds() {
			wantScan(t, "something behind", joined(row, behind), all, len(row))
		}
	}
}

func TestScanBeginsAtTheFront(t *testing.T) {
	wantScan(t, "a byte ahead", joined([]byte{9}, plainFrame([]byte("a"))), nil, 0)
	wantScan(t, "a byte of length ahead", joined([]byte{0}, plainFrame([]byte("a"))), nil, 0)
}

func TestScanWithASpoiltFrameAmongOthers(t *testing.T) {
	all := small()
	for i := range all {
		front, rest := plainRow(all[:i]), plainRow(all[i:])
		for at := 4; at < 8+len(all[i]); at++ {
			b := joined(front, rest)
			b[len(front)+at] ^= 0x10
			wantScan(t, "a spoilt frame", b, all[:i], len(front))
		}
	}
}

func TestScanWithTooLongAFrameAmongOthers(t *testing.T) {
	a, z := plainFrame([]byte("a")), plainFrame([]byte("z"))
	wantScan(t, "too long a frame", joined(a, plainFrame(make([]byte, api.MaxRecord+1)), z), [][]byte{[]byte("a")}, len(a))
}

// P8.2

func TestWhatIsPutIsGot(t *testing.T) {
	for _, record := range records() {
		for _, front := range fronts() {
			b := put(t, front, record)
			wantGet(t, "put and got", b, len(front), answer{string(record), len(b), api.OK})
		}
	}
}

func TestARowIsScannedAsItsRecords(t *testing.T) {
	var row []byte
	var all [][]byte
	for _, record := range records() {
		row, all = put(t, row, record), append(all, record)
		wantScan(t, "a row", row, all, len(row))
	}
	at := 0
	for _, record := range all {
		wantGet(t, "a row, one by one", row, at, answer{string(record), at + rec.Size(record), api.OK})
		at += rec.Size(record)
	}
	wantNone(t, "behind the row", row, at, api.ErrShort)
}

func TestARowOfVeryManyRecords(t *testing.T) {
	all := make([][]byte, 20000)
	for i := range all {
		all[i] = noise(uint64(i), i%3)
	}
	row := plainRow(all)
	wantScan(t, "very many", row, all, len(row))
	wantScan(t, "very many, cut", row[:len(row)-1], all[:len(all)-1], len(row)-rec.Size(all[len(all)-1]))
}

func TestEachBeginningOfARow(t *testing.T) {
	all := small()
	row := plainRow(all)
	whole, end := 0, 0
	for n := range len(row) + 1 {
		if whole < len(all) && end+8+len(all[whole]) <= n {
			end += 8 + len(all[whole])
			whole++
		}
		wantScan(t, "a beginning", row[:n], all[:whole], end)
	}
	if whole != len(all) || end != len(row) {
		t.Errorf("the whole row: %d records up to %d", whole, end)
	}
}

// A record that is a row of frames stays one record.
func TestARowWithinARecord(t *testing.T) {
	inner := plainRow(small())
	b := put(t, put(t, nil, inner), []byte("behind"))
	wantScan(t, "a row within", b, [][]byte{inner, []byte("behind")}, len(b))
	wantGet(t, "a frame within", b, 8, asAnswer(plainGet(b, 8)))
}

// R3

// spare is the same bytes with memory behind them that could be written into.
func spare(b []byte) []byte {
	return append(make([]byte, 0, len(b)+1000), b...)
}

// flood writes over bytes, and over all memory behind them.
func flood(b []byte, with byte) {
	b = b[:cap(b)]
	for i := range b {
		b[i] = with
	}
}

func TestWhatIsHandedInStays(t *testing.T) {
	for _, b := range append(behinds(), plainRow(small()), plainFrame(noise(5, api.MaxRecord)), nil) {
		for _, record := range [][]byte{nil, []byte("record"), make([]byte, api.MaxRecord+1)} {
			front, own := spare(b), spare(record)
			was, wasOwn := bytes.Clone(front[:cap(front)]), bytes.Clone(own[:cap(own)])
			rec.Put(front, own)
			rec.Get(front, 0)
			rec.Scan(front)
			rec.Size(own)
			if !bytes.Equal(front[:cap(front)], was) || !bytes.Equal(own[:cap(own)], wasOwn) {
				t.Errorf("%d and %d bytes that were handed in aren't as they were", len(b), len(record))
			}
		}
	}
}

func TestWhatPutAnswersIsNewMemory(t *testing.T) {
	for _, plain := range fronts() {
		front, record := spare(plain), spare([]byte("record"))
		want := joined(plain, plainFrame([]byte("record")))
		one, two := put(t, front, record), put(t, front, record)
		flood(front, 0xee)
		flood(record, 0xee)
		flood(two, 0xdd)
		if !bytes.Equal(one, want) {
			t.Errorf("behind %d bytes: what was put changed", len(plain))
		}
		flood(one, 0xcc)
		if bytes.IndexByte(front[:cap(front)], 0xcc) >= 0 || bytes.IndexByte(record[:cap(record)], 0xcc) >= 0 {
			t.Errorf("behind %d bytes: what was put is what was handed in", len(plain))
		}
	}
}

// What stands behind a length, up to the capacity, is nobody's business.
func TestMemoryBehindALengthDoesNotCount(t *testing.T) {
	row := plainRow([][]byte{[]byte("hello"), []byte("more")})
	wantNone(t, "a frame whose end is behind the length", row[:12:len(row)], 0, api.ErrShort)
	wantScan(t, "a frame whose end is behind the length", row[:20:len(row)], [][]byte{[]byte("hello")}, 13)
	if got := put(t, row[:1:len(row)], row[8:9:len(row)]); !bytes.Equal(got, joined([]byte{0}, plainFrame([]byte("h")))) {
		t.Errorf("Put of parts of a row: % x", got)
	}
}

// The front and the record may be the same memory, or overlap.
func TestPutOfWhatItStandsBehind(t *testing.T) {
	b := spare([]byte("the same"))
	want := joined([]byte("the same"), plainFrame([]byte("the same")))
	if got := put(t, b, b); !bytes.Equal(got, want) {
		t.Errorf("Put of a front behind itself: % x, not % x", got, want)
	}
	want = joined([]byte("the"), plainFrame([]byte("same")))
	if got := put(t, b[:3], b[4:]); !bytes.Equal(got, want) {
		t.Errorf("Put of what stands behind a front: % x, not % x", got, want)
	}
}

func TestWhatIsGotHasBytesOfItsOwn(t *testing.T) {
	for _, record := range [][]byte{[]byte("a"), []byte("hello"), noise(2, 300), noise(3, api.MaxRecord)} {
		b := spare(joined(plainFrame(record), plainFrame([]byte("next"))))
		was := bytes.Clone(b[:cap(b)])
		one, _, _ := rec.Get(b, 0)
		two, _, _ := rec.Get(b, 0)
		flood(two, 0xdd)
		if !bytes.Equal(b[:cap(b)], was) {
			t.Errorf("%d bytes: what was got is what was handed in", len(record))
		}
		flood(b, 0xee)
		if !bytes.Equal(one, record) {
			t.Errorf("%d bytes: what was got changed", len(record))
		}
	}
}

func TestWhatIsScannedHasBytesOfItsOwn(t *testing.T) {
	all := small()
	b := spare(plainRow(all))
	was := bytes.Clone(b[:cap(b)])
	one, _ := rec.Scan(b)
	two, _ := rec.Scan(b)
	for i := range two {
		flood(two[i], 0xdd)
		two[i] = nil
	}
	if !bytes.Equal(b[:cap(b)], was) {
		t.Error("what was scanned is what was handed in")
	}
	flood(b, 0xee)
	if !sameRecords(one, all) {
		t.Error("what was scanned changed")
	}
	for i := range one {
		flood(one[i], byte(i))
		if !sameRecords(one[i+1:], all[i+1:]) {
			t.Errorf("record %d shares bytes with one behind it", i)
		}
	}
	for i, record := range one {
		if !bytes.Equal(record, bytes.Repeat([]byte{byte(i)}, len(record))) {
			t.Errorf("record %d shares bytes with another one", i)
		}
	}
}
