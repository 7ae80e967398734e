package rec_test

import (
	"bytes"
	"fmt"
	"testing"

	"equerry/api"
)

// P8.3

// spoilts are records of lengths at, and around, a row of four, and greater ones.
func spoilts() [][]byte {
	all := [][]byte{make([]byte, 3), make([]byte, 30), bytes.Repeat([]byte{0xff}, 30)}
	for _, n := range []int{0, 1, 2, 3, 4, 5, 6, 7, 8, 9, 20, 64, 255, 1000} {
		all = append(all, noise(uint64(n), n))
	}
	return all
}

// rowsOfFour are the ways to change up to four bytes in a row: a first one that changes, and up to three behind it that may.
func rowsOfFour() [][]byte {
	var all [][]byte
	for _, first := range []byte{1, 0x80, 0x5a, 0xff} {
		for mask := range 8 {
			row := []byte{first, 0, 0, 0}
			for i, by := range noise(uint64(first)+uint64(mask), 3) {
				if mask>>i&1 == 1 {
					row[1+i] = by | 1
				}
			}
			all = append(all, row)
		}
	}
	return all
}

// spoil is bytes of which those from a place on, but none from end on, are changed.
func spoil(b []byte, at, end int, by []byte) []byte {
	b = bytes.Clone(b)
	for i, c := range by {
		if at+i < end {
			b[at+i] ^= c
		}
	}
	return b
}

func wantSpoilt(t *testing.T, what string, frame []byte) {
	t.Helper()
	wantNone(t, what, frame, 0, api.ErrSum)
	wantScan(t, what, frame, nil, 0)
}

func TestSpoiltInTheSum(t *testing.T) {
	for _, record := range spoilts() {
		frame := put(t, nil, record)
		for at := 4; at < 8; at++ {
			for _, by := range rowsOfFour() {
				wantSpoilt(t, fmt.Sprintf("%d bytes, the sum spoilt at %d by % x", len(record), at, by), spoil(frame, at, 8, by))
			}
		}
	}
}

func TestSpoiltInTheRecord(t *testing.T) {
	for _, record := range spoilts() {
		frame := put(t, nil, record)
		for at := 8; at < len(frame); at += 1 + len(record)/100 {
			for _, by := range rowsOfFour() {
				wantSpoilt(t, fmt.Sprintf("%d bytes, spoilt at %d by % x", len(record), at, by), spoil(frame, at, len(frame), by))
			}
		}
	}
}

func TestSpoiltInTheGreatestRecord(t *testing.T) {
	frame := put(t, nil, noise(8, api.MaxRecord))
	for _, at := range []int{8, 9, 1000, len(frame) / 2, len(frame) - 4, len(frame) - 1} {
		for _, by := range rowsOfFour()[:3] {
			wantSpoilt(t, fmt.Sprintf("the greatest, spoilt at %d by % x", at, by), spoil(frame, at, len(frame), by))
		}
	}
}

// What several spoilt bits do to a sum is what each one does, put together by exclusive or: so if no choice of the single ones comes to 0, no spoiling of these bytes keeps the sum.
func TestSpoiltInTheRecordInAllWays(t *testing.T) {
	for _, record := range spoilts() {
		for at := range record {
			end := min(at+4, len(record))
			if n := independent(changes(t, record, at, end)); n != 8*(end-at) {
				t.Errorf("%d bytes, at %d: only %d of %d bits tell", len(record), at, n, 8*(end-at))
			}
		}
	}
}

// Across both: the last bytes of the sum, and the first ones of the record. What is left of the sum tells of the record's bits, if no choice of them comes to 0 there.
func TestSpoiltAcrossSumAndRecordInAllWays(t *testing.T) {
	for _, n := range []int{1, 2, 5, 7, 14, 15, 16, 20, 31, 33, 37} {
		record := noise(uint64(n), n)
		frame := put(t, nil, record)
		for at := 5; at < 8; at++ {
			end := min(at+4, len(frame)) - 8
			told := changes(t, record, 0, end)
			for i := range told {
				told[i] >>= 8 * (8 - at) // these bytes of the sum may be whatever the record's make of it
			}
			if got := independent(told); got != 8*end {
				t.Errorf("%d bytes, across from %d: only %d of %d bits tell", n, at, got, 8*end)
			}
			for _, by := range rowsOfFour() {
				wantSpoilt(t, fmt.Sprintf("%d bytes, across from %d by % x", n, at, by), spoil(frame, at, len(frame), by))
			}
		}
	}
}

// The sum's last byte and the record's first one alone tell at every length, other than longer rows across both.
func TestSpoiltInTwoBytesAcrossSumAndRecord(t *testing.T) {
	for n := 1; n <= 300; n++ {
		told := changes(t, noise(uint64(n), n), 0, 1)
		for i := range told {
			told[i] >>= 8
		}
		if got := independent(told); got != 8 {
			t.Errorf("%d bytes: only %d of 8 bits tell", n, got)
		}
	}
}

// At other lengths two frames as Put makes them may differ just in four bytes in a row across sum and record: since what is put is got (P8.2), both are whole. P8.3 speaks of the sum's bytes, or of the record's.
func TestTwoFramesThatDifferJustAcross(t *testing.T) {
	for _, pair := range [][2]string{{"abc", "PXc"}, {"seam", "\xb4\x76\x36m"}, {"keeper", "\xfceeper"}} {
		one, two := put(t, nil, []byte(pair[0])), put(t, nil, []byte(pair[1]))
		for i := range one {
			if across := i > 4 && i < 11; !across && one[i] != two[i] {
				t.Errorf("%q: other at %d", pair, i)
			}
		}
		if first, last := ends(one, two); last-first > 4 {
			t.Errorf("%q: other from %d to %d", pair, first, last)
		}
		wantGet(t, "the one", one, 0, answer{pair[0], len(one), api.OK})
		wantGet(t, "the other", two, 0, answer{pair[1], len(two), api.OK})
	}
}

// ends are where two rows of bytes begin to be other ones, and where that ends.
func ends(a, b []byte) (int, int) {
	first, last := len(a), 0
	for i := range a {
		if a[i] != b[i] {
			first, last = min(first, i), i+1
		}
	}
	return first, last
}

// changes is what each bit of a record's bytes, from a place to another one, does to its frame's sum.
func changes(t *testing.T, record []byte, from, to int) []uint32 {
	t.Helper()
	var all []uint32
	for bit := range 8 * (to - from) {
		spoilt := bytes.Clone(record)
		spoilt[from+bit/8] ^= 1 << (bit % 8)
		all = append(all, sumIn(put(t, nil, spoilt))^sumIn(put(t, nil, record)))
	}
	return all
}

// sumIn is the sum in a frame.
func sumIn(frame []byte) uint32 {
	return uint32(frame[4])<<24 | uint32(frame[5])<<16 | uint32(frame[6])<<8 | uint32(frame[7])
}

// independent is how many of some rows no exclusive or of others makes.
func independent(rows []uint32) int {
	var led [32]uint32
	n := 0
	for _, row := range rows {
		for bit := 31; bit >= 0 && row != 0; bit-- {
			if row>>bit&1 == 0 {
				continue
			}
			if led[bit] == 0 {
				led[bit] = row
				n++
				break
			}
			row ^= led[bit]
		}
	}
	return n
}

// A frame that is spoilt among others ends the scan ahead of it, however many whole ones stand behind.
func TestSpoiltAmongOthers(t *testing.T) {
	ahead, behind := plainFrame([]byte("ahead")), plainRow([][]byte{[]byte("behind"), nil})
	for _, record := range spoilts() {
		frame := put(t, nil, record)
		for at := 4; at < len(frame); at += 1 + len(frame)/30 {
			end := 8
			if at >= 8 {
				end = len(frame)
			}
			for _, by := range rowsOfFour()[:9] {
				b := joined(ahead, spoil(frame, at, end, by), behind)
				wantNone(t, "spoilt among others", b, len(ahead), api.ErrSum)
				wantScan(t, "spoilt among others", b, [][]byte{[]byte("ahead")}, len(ahead))
			}
		}
	}
}
