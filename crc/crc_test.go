package crc_test

import (
	"bytes"
	"hash/crc32"
	"math"
	"testing"

	"equerry/crc"
)

// shift is the chapter's eight steps of a byte, bit by bit.
func shift(row uint32) uint32 {
	for range 8 {
		fell := row & 1
		row >>= 1
		if fell == 1 {
			row ^= 0xedb88320
		}
	}
	return row
}

// plainSum is the chapter's sum, word by word.
func plainSum(b []byte) uint32 {
	row := uint32(0xffffffff)
	for _, c := range b {
		row = shift(row ^ uint32(c))
	}
	return row ^ 0xffffffff
}

// plainJoin is the chapter's Join, a byte 0 at a time.
func plainJoin(a, b uint32, n int) uint32 {
	for i := 0; i < n; i++ {
		a = shift(a)
	}
	return a ^ b
}

// noise is n bytes that look like chance, and are the same each time.
func noise(seed uint32, n int) []byte {
	b := make([]byte, n)
	for i := range b {
		seed = seed*1664525 + 1013904223
		b[i] = byte(seed >> 24)
	}
	return b
}

func texts() [][]byte {
	all := [][]byte{nil, {}, {0}, {0xff}, []byte("123456789"), bytes.Repeat([]byte{0}, 40), bytes.Repeat([]byte{0xff}, 40)}
	for n := 1; n < 70; n += 3 {
		all = append(all, noise(uint32(n), n))
	}
	return append(all, noise(5, 1<<12))
}

func rows() []uint32 {
	return []uint32{0, 1, 2, 0x80000000, 0xedb88320, 0xcbf43926, 0x7fffffff, 0xdeadbeef, 0xffffffff}
}

// P1.1

func TestSumOfKnownTexts(t *testing.T) {
	for s, want := range map[string]uint32{
		"":                 0,
		"123456789":        0xcbf43926,
		"\x00":             0xd202ef8d,
		"\x00\x00\x00\x00": 0x2144df1c,
		"\xff\xff\xff\xff": 0xffffffff,
		"The quick brown fox jumps over the lazy dog": 0x414fa339,
	} {
		if got := crc.Sum([]byte(s)); got != want {
			t.Errorf("Sum(%q) = %#x, want %#x", s, got, want)
		}
	}
}

func TestSumOfEveryByte(t *testing.T) {
	for c := range 256 {
		b := []byte{byte(c)}
		if got, want := crc.Sum(b), plainSum(b); got != want {
			t.Errorf("Sum(%v) = %#x, want %#x", b, got, want)
		}
	}
}

func TestSumIsTheChapters(t *testing.T) {
	for _, b := range texts() {
		got := crc.Sum(b)
		if got != plainSum(b) || got != crc32.ChecksumIEEE(b) {
			t.Errorf("Sum of %d bytes = %#x, want %#x", len(b), got, plainSum(b))
		}
	}
}

func TestSumOfNilIsThatOfNothing(t *testing.T) {
	if crc.Sum(nil) != 0 || crc.Sum([]byte{}) != 0 {
		t.Errorf("Sum(nil) = %#x, Sum of nothing = %#x", crc.Sum(nil), crc.Sum([]byte{}))
	}
	for _, sum := range rows() {
		if crc.More(sum, nil) != sum || crc.More(sum, []byte{}) != sum {
			t.Errorf("More(%#x, nothing) = %#x", sum, crc.More(sum, nil))
		}
	}
}

func TestMoreAtAnySum(t *testing.T) {
	for _, sum := range rows() {
		for _, b := range texts() {
			if got, want := crc.More(sum, b), crc32.Update(sum, crc32.IEEETable, b); got != want {
				t.Errorf("More(%#x, %d bytes) = %#x, want %#x", sum, len(b), got, want)
			}
		}
	}
}

func TestJoinAtAnySums(t *testing.T) {
	for _, a := range rows() {
		for _, b := range rows() {
			for _, n := range []int{0, 1, 2, 3, 4, 5, 7, 8, 31, 32, 33, 255, 256, 1000, 65537} {
				if got, want := crc.Join(a, b, n), plainJoin(a, b, n); got != want {
					t.Fatalf("Join(%#x, %#x, %d) = %#x, want %#x", a, b, n, got, want)
				}
			}
		}
	}
}

func TestJoinBelowZeroCountsAsZero(t *testing.T) {
	for _, a := range rows() {
		for _, b := range rows() {
			for _, n := range []int{0, -1, -8, math.MinInt32, -math.MaxInt, math.MinInt} {
				if got := crc.Join(a, b, n); got != a^b {
					t.Errorf("Join(%#x, %#x, %d) = %#x, want %#x", a, b, n, got, a^b)
				}
			}
		}
	}
}

// A row comes round after 2^32 - 1 places, so after as many bytes too; the greatest int leaves 2^31 bytes of such a round.
func TestJoinOverHugeNumbers(t *testing.T) {
	for _, a := range rows() {
		row := crc.Join(a, 0, math.MaxInt)
		row = crc.Join(row, 0, 1<<30)
		row = crc.Join(row, 0, 1<<30)
		if row != a {
			t.Errorf("%#x over a round of bytes 0 is %#x", a, row)
		}
		if crc.Join(a, 77, math.MaxInt) != crc.Join(a, 0, math.MaxInt)^77 {
			t.Errorf("Join(%#x, 77, MaxInt) doesn't put on 77", a)
		}
		if crc.Join(crc.Join(a, 0, math.MaxInt-3), 0, 3) != crc.Join(a, 0, math.MaxInt) {
			t.Errorf("Join(%#x, 0, MaxInt) isn't that of its parts", a)
		}
	}
}

// P1.2

func TestPartsOfEverySplit(t *testing.T) {
	for _, whole := range texts() {
		sum := crc.Sum(whole)
		for at := 0; at <= len(whole); at += 1 + len(whole)/100 {
			a, b := whole[:at], whole[at:]
			if got := crc.More(crc.Sum(a), b); got != sum {
				t.Errorf("More at %d of %d bytes = %#x, want %#x", at, len(whole), got, sum)
			}
			if got := crc.Join(crc.Sum(a), crc.Sum(b), len(b)); got != sum {
				t.Errorf("Join at %d of %d bytes = %#x, want %#x", at, len(whole), got, sum)
			}
		}
	}
}

func TestPartsOneByOne(t *testing.T) {
	whole := noise(11, 300)
	more, join := crc.Sum(nil), crc.Sum(nil)
	for _, c := range whole {
		more = crc.More(more, []byte{c})
		join = crc.Join(join, crc.Sum([]byte{c}), 1)
	}
	if want := plainSum(whole); more != want || join != want {
		t.Errorf("byte by byte: More %#x, Join %#x, want %#x", more, join, want)
	}
}

// P1.3

func TestSpoiltInARowOfFour(t *testing.T) {
	for _, b := range texts() {
		sum := crc.Sum(b)
		for at := 0; at < len(b); at += 1 + len(b)/60 {
			for seed := range uint32(12) {
				spoilt := bytes.Clone(b)
				for i, c := range noise(seed, 4) {
					if at+i < len(b) {
						spoilt[at+i] ^= c
					}
				}
				if !bytes.Equal(spoilt, b) && crc.Sum(spoilt) == sum {
					t.Errorf("%d bytes, spoilt at %d by %d: the same sum", len(b), at, seed)
				}
			}
		}
	}
}

func TestSpoiltInOneOrTwoBytes(t *testing.T) {
	b := []byte("a gate with keepers")
	sum := crc.Sum(b)
	for at := 0; at+1 < len(b); at++ {
		for by := 1; by < 1<<16; by += 7 {
			spoilt := bytes.Clone(b)
			spoilt[at] ^= byte(by)
			spoilt[at+1] ^= byte(by >> 8)
			if crc.Sum(spoilt) == sum {
				t.Fatalf("spoilt at %d by %#x: the same sum", at, by)
			}
		}
	}
}

// What several spoilt bits do to a sum is what each one does, put together by exclusive or: so if no choice of the 32 single ones comes to 0, no spoiling of four bytes keeps the sum.
func TestSpoiltAllWaysOfFour(t *testing.T) {
	for _, b := range [][]byte{noise(1, 4), noise(2, 9), noise(3, 64), noise(4, 1000)} {
		for at := 0; at+4 <= len(b); at += 1 + len(b)/40 {
			if n := independent(changes(b, at)); n != 32 {
				t.Errorf("%d bytes, at %d: only %d of 32 bits tell", len(b), at, n)
			}
		}
	}
}

// changes is what each of the 32 bits from a byte on does to the sum.
func changes(b []byte, at int) []uint32 {
	var all []uint32
	for bit := range 32 {
		spoilt := bytes.Clone(b)
		spoilt[at+bit/8] ^= 1 << (bit % 8)
		all = append(all, crc.Sum(spoilt)^crc.Sum(b))
	}
	return all
}

// independent is how many of some rows no exclusive or of others makes.
func independent(rows []uint32) int {
	var led [32]uint32
	n := 0
	for _, row := range rows {
		for bit := 31; bit >= 0 && row != 0; bit-- {
			if row>>bit&1 == 0 {
				continue
			}
			if led[bit] == 0 {
				led[bit] = row
				n++
				break
			}
			row ^= led[bit]
		}
	}
	return n
}

// R3, R5

func TestWhatIsHandedInStays(t *testing.T) {
	for _, b := range texts() {
		was := bytes.Clone(b)
		sum, more := crc.Sum(b), crc.More(9, b)
		if !bytes.Equal(b, was) {
			t.Fatalf("%d bytes were changed", len(b))
		}
		if crc.Sum(b) != sum || crc.More(9, b) != more {
			t.Fatalf("%d bytes: another answer the second time", len(b))
		}
	}
}

func TestWhatIsBehindALengthDoesNotCount(t *testing.T) {
	b := []byte("123456789 and more")
	if got := crc.Sum(b[:9]); got != 0xcbf43926 {
		t.Errorf("Sum of the first nine = %#x", got)
	}
	if got := crc.More(crc.Sum(b[:4]), b[4:9]); got != 0xcbf43926 {
		t.Errorf("More of the first nine = %#x", got)
	}
}
