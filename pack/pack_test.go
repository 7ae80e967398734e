package pack_test

import (
	"bytes"
	"encoding/binary"
	"math"
	"math/big"
	"slices"
	"strings"
	"testing"

	"equerry/api"
	"equerry/pack"
)

const (
	theNaN   uint64 = 0x7ff8000000000000
	infinity uint64 = 0x7ff0000000000000
	sign     uint64 = 1 << 63
)

// noise is n numbers that look like chance, and are the same each time.
func noise(seed uint64, n int) []uint64 {
	all := make([]uint64, n)
	for i := range all {
		seed = seed*6364136223846793005 + 1442695040888963407
		all[i] = seed ^ seed>>29
	}
	return all
}

// numbers are those at which a writing grows, or a bit comes in, with their neighbours, and some of each size.
func numbers() []uint64 {
	all := []uint64{0, 1, 2, 127, 128, 129, 300, 16383, 16384, 1<<63 - 1, 1 << 63, 1<<63 + 1, math.MaxUint64 - 1, math.MaxUint64}
	for bit := range 64 {
		all = append(all, 1<<bit-1, 1<<bit, 1<<bit+1)
	}
	for i, n := range noise(3, 256) {
		all = append(all, n>>(i%64))
	}
	return all
}

// signeds are signed numbers at both ends, around 0, and where a writing grows.
func signeds() []int64 {
	all := []int64{0, 1, -1, 2, -2, 63, 64, -64, -65, 8191, 8192, -8192, -8193, math.MaxInt64, math.MaxInt64 - 1, math.MinInt64, math.MinInt64 + 1}
	for _, n := range numbers() {
		all = append(all, int64(n), -int64(n))
	}
	return all
}

// texts have lengths at which the length's writing grows, and any bytes.
func texts() []string {
	all := []string{"", "a", "ab", "\x00", "\x80", "\xff\xfe", "gr\u00fc\u00df", "\U0001f40e", strings.Repeat("\x00", 9)}
	for _, n := range []int{126, 127, 128, 129, 254, 255, 256, 16383, 16384, 70000} {
		all = append(all, strings.Repeat("equerry\xff", n/8+1)[:n])
	}
	return all
}

// realBits are bits of real numbers of each class and sign, and the NaN's.
func realBits() []uint64 {
	all := []uint64{theNaN}
	for _, b := range []uint64{0, 1, 1<<52 - 1, 1 << 52, infinity - 1, infinity, math.Float64bits(0.1), math.Float64bits(0.5), math.Float64bits(1), math.Float64bits(1 << 53), math.Float64bits(math.Pi), 0x0123456789abcdef} {
		all = append(all, b, b|sign)
	}
	for _, b := range noise(5, 100) {
		all = append(all, b>>1%infinity, b>>1%infinity|sign)
	}
	return all
}

// otherNaNs are bits of NaNs that aren't the NaN's, quiet and signalling, of both signs.
func otherNaNs() []uint64 {
	return []uint64{infinity + 1, theNaN - 1, theNaN + 1, 0x7ff4000000000000, 0x7fffffffffffffff, infinity | sign + 1, theNaN | sign, theNaN | sign + 1, 0xfff4000000000000, 0xffffffffffffffff}
}

// fronts are bytes that a writing stands behind.
func fronts() [][]byte {
	return [][]byte{nil, {}, {0}, {0x80}, {0xff, 0xff}, []byte("front"), bytes.Repeat([]byte{0x80}, 20)}
}

// behinds are bytes that stand behind a writing.
func behinds() [][]byte {
	return [][]byte{nil, {0}, {0x80}, {0xff}, []byte("behind"), bytes.Repeat([]byte{0xff}, 12)}
}

// joined is its parts, one behind the other, in memory of its own.
func joined(parts ...[]byte) []byte { return bytes.Join(parts, nil) }

// plain is the chapter's writing of a number, by dividing.
func plain(n *big.Int) []byte {
	base, seven := big.NewInt(128), new(big.Int)
	var b []byte
	for n = new(big.Int).Set(n); ; {
		n.DivMod(n, base, seven)
		if n.Sign() == 0 {
			return append(b, byte(seven.Int64()))
		}
		b = append(b, byte(seven.Int64()+128))
	}
}

func plainNumber(n uint64) []byte { return plain(new(big.Int).SetUint64(n)) }

// plainSigned is the chapter's writing of a signed number.
func plainSigned(n int64) []byte {
	twice := new(big.Int).Mul(big.NewInt(2), big.NewInt(n))
	if n >= 0 {
		return plain(twice)
	}
	return plain(twice.Neg(twice).Sub(twice, big.NewInt(1)))
}

// plainGet is the chapter's Get: the whole writing is taken first, and read then.
func plainGet(b []byte, at int) (uint64, int, api.Errno) {
	if at < 0 || at > len(b) {
		return 0, 0, api.ErrShort
	}
	row := b[at:]
	if len(row) >= 10 && !slices.ContainsFunc(row[:9], func(c byte) bool { return c < 128 }) && row[9] > 1 {
		return 0, 0, api.ErrLong
	}
	last := slices.IndexFunc(row, func(c byte) bool { return c < 128 })
	if last < 0 {
		return 0, 0, api.ErrShort
	}
	if last > 0 && row[last] == 0 {
		return 0, 0, api.ErrForm
	}
	n := new(big.Int)
	for i := last; i >= 0; i-- {
		n.Mul(n, big.NewInt(128)).Add(n, big.NewInt(int64(row[i]%128)))
	}
	return n.Uint64(), at + last + 1, api.OK
}

// P3.1: Put, Size

func TestPutOfKnownNumbers(t *testing.T) {
	for n, want := range map[uint64]string{
		0:              "\x00",
		1:              "\x01",
		127:            "\x7f",
		128:            "\x80\x01",
		129:            "\x81\x01",
		300:            "\xac\x02",
		16383:          "\xff\x7f",
		16384:          "\x80\x80\x01",
		1<<63 - 1:      "\xff\xff\xff\xff\xff\xff\xff\xff\x7f",
		1 << 63:        "\x80\x80\x80\x80\x80\x80\x80\x80\x80\x01",
		math.MaxUint64: "\xff\xff\xff\xff\xff\xff\xff\xff\xff\x01",
	} {
		if got := pack.Put(nil, n); string(got) != want {
			t.Errorf("Put(nil, %d) = %x, want %x", n, got, want)
		}
		if got := pack.Size(n); got != len(want) {
			t.Errorf("Size(%d) = %d, want %d", n, got, len(want))
		}
	}
}

func TestPutIsTheChapters(t *testing.T) {
	for _, n := range numbers() {
		want := plainNumber(n)
		for _, front := range fronts() {
			if got := pack.Put(front, n); !bytes.Equal(got, joined(front, want)) {
				t.Errorf("Put(%x, %d) = %x, want %x behind", front, n, got, want)
			}
		}
		if !bytes.Equal(want, binary.AppendUvarint(nil, n)) {
			t.Errorf("the test's own writing of %d is %x", n, want)
		}
	}
}

func TestSizeIsHowManyBytesPutHas(t *testing.T) {
	for _, n := range numbers() {
		if got, want := pack.Size(n), len(plainNumber(n)); got != want || got != len(pack.Put(nil, n)) {
			t.Errorf("Size(%d) = %d, want %d", n, got, want)
		}
	}
	for size := 1; size <= 9; size++ {
		most := uint64(1)<<(7*size) - 1
		if pack.Size(most) != size || pack.Size(most+1) != size+1 {
			t.Errorf("Size(%d) = %d, Size(%d) = %d", most, pack.Size(most), most+1, pack.Size(most+1))
		}
	}
}

// P3.1: Get

// wantGet holds an answer of Get against the one that is wanted.
func wantGet(t *testing.T, b []byte, at int, want uint64, wantEnd int, wantErr api.Errno) {
	t.Helper()
	if n, end, e := pack.Get(b, at); n != want || end != wantEnd || e != wantErr {
		t.Errorf("Get(%x, %d) = %d, %d, %v, want %d, %d, %v", b, at, n, end, e, want, wantEnd, wantErr)
	}
}

func TestGetOfAll(t *testing.T) {
	for _, n := range numbers() {
		row := plainNumber(n)
		for _, front := range fronts() {
			for _, behind := range behinds() {
				wantGet(t, joined(front, row, behind), len(front), n, len(front)+len(row), api.OK)
			}
		}
	}
}

func TestGetWhereBytesEndAheadIsShort(t *testing.T) {
	for _, n := range numbers() {
		row := plainNumber(n)
		for have := range row {
			wantGet(t, row[:have], 0, 0, 0, api.ErrShort) // what is behind the length doesn't count
			wantGet(t, joined([]byte("front"), row[:have]), 5, 0, 0, api.ErrShort)
		}
	}
	for have := range 10 {
		wantGet(t, bytes.Repeat([]byte{0x80}, have), 0, 0, 0, api.ErrShort)
		wantGet(t, bytes.Repeat([]byte{0xff}, have), 0, 0, 0, api.ErrShort)
	}
}

func TestGetAtPlacesThatAreNone(t *testing.T) {
	for _, b := range [][]byte{nil, {}, {5}, {5, 6, 7}, bytes.Repeat([]byte{1}, 30)[:3]} {
		for _, at := range []int{len(b), len(b) + 1, len(b) + 2, 1 << 31, 1 << 40, math.MaxInt, math.MaxInt - 1, -1, -2, -8, math.MinInt, math.MinInt + 1} {
			wantGet(t, b, at, 0, 0, api.ErrShort)
		}
	}
}

func TestGetOfTheTenthByte(t *testing.T) {
	for _, fill := range []byte{0x80, 0xff} {
		nine := bytes.Repeat([]byte{fill}, 9)
		low := uint64(fill&0x7f) * (math.MaxUint64 >> 1 / 127)
		for tenth := range 256 {
			for _, behind := range behinds() {
				b := joined([]byte("x"), nine, []byte{byte(tenth)}, behind)
				switch tenth {
				case 0:
					wantGet(t, b, 1, 0, 0, api.ErrForm)
				case 1:
					wantGet(t, b, 1, low|1<<63, 11, api.OK)
				default:
					wantGet(t, b, 1, 0, 0, api.ErrLong)
				}
			}
		}
	}
}

func TestGetOfALastByte0(t *testing.T) {
	wantGet(t, []byte{0}, 0, 0, 1, api.OK)
	wantGet(t, []byte{0, 0}, 0, 0, 1, api.OK)
	wantGet(t, []byte{0x80, 0, 0}, 2, 0, 3, api.OK)
	wantGet(t, []byte{0x80, 0}, 1, 0, 2, api.OK)
	for _, fill := range []byte{0x80, 0x81, 0xff} {
		for ahead := 1; ahead <= 9; ahead++ {
			for _, behind := range behinds() {
				b := joined(bytes.Repeat([]byte{fill}, ahead), []byte{0}, behind)
				wantGet(t, b, 0, 0, 0, api.ErrForm)
			}
		}
	}
}

func TestGetOfAllShortRows(t *testing.T) {
	for row := range 1 << 16 {
		for _, b := range [][]byte{{byte(row)}, {byte(row), byte(row >> 8)}, {byte(row), byte(row >> 8), byte(row * 37)}} {
			n, end, e := plainGet(b, 0)
			wantGet(t, b, 0, n, end, e)
		}
	}
}

// longRows are rows of bytes of which most go on, so that writings come near their greatest size.
func longRows() [][]byte {
	var all [][]byte
	for i, seed := range noise(9, 3000) {
		b := make([]byte, i%17)
		for k := range b {
			b[k] = byte(seed>>(k*3)) | 0x80
			if seed>>(k+11)&15 == 0 {
				b[k] &= 3
			}
		}
		all = append(all, b)
	}
	return all
}

func TestGetOfLongRows(t *testing.T) {
	seen := make(map[api.Errno]int)
	for _, b := range longRows() {
		for at := -1; at <= len(b)+1; at++ {
			n, end, e := plainGet(b, at)
			wantGet(t, b, at, n, end, e)
			seen[e]++
		}
	}
	for _, e := range []api.Errno{api.OK, api.ErrShort, api.ErrLong, api.ErrForm} {
		if seen[e] < 50 {
			t.Errorf("the rows try %v only %d times", e, seen[e])
		}
	}
}

// P3.1: PutInt, GetInt

func TestPutIntOfKnownNumbers(t *testing.T) {
	for n, want := range map[int64]string{
		0:             "\x00",
		-1:            "\x01",
		1:             "\x02",
		-2:            "\x03",
		2:             "\x04",
		63:            "\x7e",
		-64:           "\x7f",
		64:            "\x80\x01",
		-65:           "\x81\x01",
		math.MaxInt64: "\xfe\xff\xff\xff\xff\xff\xff\xff\xff\x01",
		math.MinInt64: "\xff\xff\xff\xff\xff\xff\xff\xff\xff\x01",
	} {
		if got := pack.PutInt(nil, n); string(got) != want {
			t.Errorf("PutInt(nil, %d) = %x, want %x", n, got, want)
		}
		if got, end, e := pack.GetInt([]byte(want), 0); got != n || end != len(want) || e != api.OK {
			t.Errorf("GetInt(%x) = %d, %d, %v, want %d", want, got, end, e, n)
		}
	}
}

func TestPutIntIsTheChapters(t *testing.T) {
	for _, n := range signeds() {
		want := plainSigned(n)
		for _, front := range fronts() {
			if got := pack.PutInt(front, n); !bytes.Equal(got, joined(front, want)) {
				t.Errorf("PutInt(%x, %d) = %x, want %x behind", front, n, got, want)
			}
		}
	}
}

func TestGetIntHasTheErrorsOfGet(t *testing.T) {
	rows := append(longRows(), nil, []byte{}, []byte{0x80}, []byte{0x80, 0}, bytes.Repeat([]byte{0xff}, 10))
	for _, b := range rows {
		for _, at := range []int{math.MinInt, -1, 0, 1, 2, len(b), len(b) + 1, math.MaxInt} {
			_, wantEnd, wantErr := plainGet(b, at)
			n, end, e := pack.GetInt(b, at)
			if e != wantErr || end != wantEnd {
				t.Errorf("GetInt(%x, %d) = %d, %d, %v, want end %d, %v", b, at, n, end, e, wantEnd, wantErr)
			}
			if e != api.OK && n != 0 {
				t.Errorf("GetInt(%x, %d) answers %d beside %v", b, at, n, e)
			}
		}
	}
}

// P3.1: PutText, GetText

// wantText holds an answer of GetText against the one that is wanted.
func wantText(t *testing.T, b []byte, at, most int, want string, wantEnd int, wantErr api.Errno) {
	t.Helper()
	if s, end, e := pack.GetText(b, at, most); s != want || end != wantEnd || e != wantErr {
		t.Errorf("GetText of %d bytes, at %d, most %d = %d bytes, %d, %v, want %d bytes, %d, %v", len(b), at, most, len(s), end, e, len(want), wantEnd, wantErr)
	}
}

func TestPutTextIsTheChapters(t *testing.T) {
	if got := pack.PutText([]byte("x"), "ab"); string(got) != "x\x02ab" {
		t.Errorf("PutText(x, ab) = %x", got)
	}
	for _, s := range texts() {
		for _, front := range fronts() {
			want := joined(front, plainNumber(uint64(len(s))), []byte(s))
			if got := pack.PutText(front, s); !bytes.Equal(got, want) {
				t.Errorf("PutText(%x, %d bytes) = %d bytes, want %d", front, len(s), len(got), len(want))
			}
		}
	}
}

func TestGetTextAroundTheBound(t *testing.T) {
	for _, s := range texts() {
		row := joined(plainNumber(uint64(len(s))), []byte(s))
		for _, front := range fronts() {
			for _, behind := range behinds() {
				b, end := joined(front, row, behind), len(front)+len(row)
				for _, most := range []int{len(s), len(s) + 1, 1 << 31, math.MaxInt} {
					wantText(t, b, len(front), most, s, end, api.OK)
				}
				for most := len(s) - 1; most >= 0; most /= 2 {
					wantText(t, b, len(front), most, "", 0, api.ErrLong)
					if most == 0 {
						break
					}
				}
			}
		}
	}
}

func TestGetTextOfABoundBelow0(t *testing.T) {
	for _, most := range []int{0, -1, -5, -255, math.MinInt32, math.MinInt + 1, math.MinInt} {
		wantText(t, []byte{0}, 0, most, "", 1, api.OK)
		wantText(t, []byte{7, 0, 9}, 1, most, "", 2, api.OK)
		wantText(t, []byte("\x01a"), 0, most, "", 0, api.ErrLong)
		wantText(t, []byte("\x02ab"), 0, most, "", 0, api.ErrLong)
	}
}

func TestGetTextOfTooFewBytes(t *testing.T) {
	for _, s := range texts() {
		row := joined(plainNumber(uint64(len(s))), []byte(s))
		for have := range row {
			if have > 5 && have+5 < len(row) {
				continue
			}
			wantText(t, row[:have], 0, len(s), "", 0, api.ErrShort)
			wantText(t, joined([]byte("front"), row[:have]), 5, math.MaxInt, "", 0, api.ErrShort)
		}
	}
}

func TestGetTextOfHugeLengths(t *testing.T) {
	for _, n := range []uint64{1 << 31, 1 << 32, 1<<32 + 1, 1 << 62, 1<<63 - 1, 1 << 63, 1<<63 + 1, math.MaxUint64 - 1, math.MaxUint64} {
		for _, behind := range behinds() {
			b := joined([]byte("xy"), plainNumber(n), behind)
			wantErr := api.ErrShort
			if n > math.MaxInt {
				wantErr = api.ErrLong
			}
			wantText(t, b, 2, math.MaxInt, "", 0, wantErr)
			wantText(t, b, 2, 255, "", 0, api.ErrLong)
			wantText(t, b, 2, -1, "", 0, api.ErrLong)
		}
	}
}

func TestGetTextTellsLongAheadOfShort(t *testing.T) {
	wantText(t, []byte("\x03ab"), 0, 2, "", 0, api.ErrLong)
	wantText(t, []byte("\x03ab"), 0, 3, "", 0, api.ErrShort)
	wantText(t, []byte("\x03"), 0, 2, "", 0, api.ErrLong)
	wantText(t, []byte("\x03"), 0, 3, "", 0, api.ErrShort)
	wantText(t, []byte("\xac\x02"), 0, 299, "", 0, api.ErrLong)
	wantText(t, []byte("\xac\x02"), 0, 300, "", 0, api.ErrShort)
}

func TestGetTextHasTheErrorsOfItsNumberFirst(t *testing.T) {
	for _, most := range []int{math.MinInt, -1, 0, 1, 255, math.MaxInt} {
		for _, b := range longRows() {
			for _, at := range []int{math.MinInt, -1, 0, 1, len(b), len(b) + 1, math.MaxInt} {
				if _, _, e := plainGet(b, at); e != api.OK {
					wantText(t, b, at, most, "", 0, e)
				}
			}
		}
		wantText(t, nil, 0, most, "", 0, api.ErrShort)
		wantText(t, []byte{0x80, 0}, 0, most, "", 0, api.ErrForm)
		wantText(t, bytes.Repeat([]byte{0xff}, 10), 0, most, "", 0, api.ErrLong)
	}
}

// P3.1: PutReal, GetReal

func bigEnd(bits uint64) []byte { return binary.BigEndian.AppendUint64(nil, bits) }

// wantReal holds an answer of GetReal against the bits that are wanted.
func wantReal(t *testing.T, b []byte, at int, want uint64, wantEnd int, wantErr api.Errno) {
	t.Helper()
	if x, end, e := pack.GetReal(b, at); math.Float64bits(x) != want || end != wantEnd || e != wantErr {
		t.Errorf("GetReal(%x, %d) = bits %#x, %d, %v, want %#x, %d, %v", b, at, math.Float64bits(x), end, e, want, wantEnd, wantErr)
	}
}

func TestPutRealOfKnownNumbers(t *testing.T) {
	for want, x := range map[string]float64{
		"\x00\x00\x00\x00\x00\x00\x00\x00": 0,
		"\x80\x00\x00\x00\x00\x00\x00\x00": math.Copysign(0, -1),
		"\x3f\xf0\x00\x00\x00\x00\x00\x00": 1,
		"\xbf\xe0\x00\x00\x00\x00\x00\x00": -0.5,
		"\x3f\xb9\x99\x99\x99\x99\x99\x9a": 0.1,
		"\x00\x00\x00\x00\x00\x00\x00\x01": math.SmallestNonzeroFloat64,
		"\x7f\xef\xff\xff\xff\xff\xff\xff": math.MaxFloat64,
		"\x7f\xf0\x00\x00\x00\x00\x00\x00": math.Inf(1),
		"\xff\xf0\x00\x00\x00\x00\x00\x00": math.Inf(-1),
		"\x7f\xf8\x00\x00\x00\x00\x00\x00": math.NaN(),
	} {
		if got := pack.PutReal(nil, x); string(got) != want {
			t.Errorf("PutReal(nil, %v) = %x, want %x", x, got, want)
		}
	}
}

func TestRealsAreTheirBitsHighestFirst(t *testing.T) {
	for _, bits := range realBits() {
		row := bigEnd(bits)
		for _, front := range fronts() {
			if got := pack.PutReal(front, math.Float64frombits(bits)); !bytes.Equal(got, joined(front, row)) {
				t.Errorf("PutReal(%x, bits %#x) = %x", front, bits, got)
			}
			for _, behind := range behinds() {
				wantReal(t, joined(front, row, behind), len(front), bits, len(front)+8, api.OK)
			}
		}
	}
}

func TestPutRealOfAllNaNsIsTheNaNs(t *testing.T) {
	for _, bits := range otherNaNs() {
		if got := pack.PutReal(nil, math.Float64frombits(bits)); !bytes.Equal(got, bigEnd(theNaN)) {
			t.Errorf("PutReal of the NaN of bits %#x = %x", bits, got)
		}
	}
}

func TestGetRealOfBitsThatAreNones(t *testing.T) {
	for _, bits := range otherNaNs() {
		for _, front := range fronts() {
			for _, behind := range behinds() {
				wantReal(t, joined(front, bigEnd(bits), behind), len(front), 0, 0, api.ErrForm)
			}
		}
	}
}

func TestGetRealOfTooFewBytes(t *testing.T) {
	for _, bits := range append(otherNaNs(), realBits()...) {
		row := bigEnd(bits)
		for have := range row {
			wantReal(t, row[:have], 0, 0, 0, api.ErrShort) // what is behind the length doesn't count
			wantReal(t, joined([]byte("front"), row[:have]), 5, 0, 0, api.ErrShort)
		}
	}
}

func TestGetRealAtPlacesThatAreNone(t *testing.T) {
	for _, b := range [][]byte{nil, {}, {1}, bytes.Repeat([]byte{1}, 7), bytes.Repeat([]byte{1}, 8), bytes.Repeat([]byte{1}, 40)[:9]} {
		for _, at := range []int{len(b) - 7, len(b) - 1, len(b), len(b) + 1, len(b) + 8, 1 << 31, math.MaxInt - 8, math.MaxInt, -1, -8, -9, math.MinInt, math.MinInt + 8} {
			wantReal(t, b, at, 0, 0, api.ErrShort)
		}
	}
}

// P3.2

// A writing of each kind, many of them, one behind the other: each is got where the last one ended.
func TestWhatIsPutIsGotWhereverItStands(t *testing.T) {
	var row []byte
	for i, n := range numbers() {
		row = pack.Put(row, n)
		row = pack.PutInt(row, -int64(n))
		row = pack.PutText(row, texts()[i%10])
		row = pack.PutReal(row, math.Float64frombits(realBits()[i%len(realBits())]))
	}
	at := 0
	for i, n := range numbers() {
		a, end, e := pack.Get(row, at)
		if a != n || e != api.OK {
			t.Fatalf("Get at %d = %d, %v, want %d", at, a, e, n)
		}
		b, end, e := pack.GetInt(row, end)
		if b != -int64(n) || e != api.OK {
			t.Fatalf("GetInt behind %d = %d, %v, want %d", at, b, e, -int64(n))
		}
		s, end, e := pack.GetText(row, end, 1<<20)
		if s != texts()[i%10] || e != api.OK {
			t.Fatalf("GetText behind %d = %q, %v", at, s, e)
		}
		x, end, e := pack.GetReal(row, end)
		if math.Float64bits(x) != realBits()[i%len(realBits())] || e != api.OK {
			t.Fatalf("GetReal behind %d = %v, %v", at, x, e)
		}
		at = end
	}
	if at != len(row) {
		t.Errorf("the last ends at %d of %d", at, len(row))
	}
}

func TestWhatIsPutIsGotAsItWas(t *testing.T) {
	for _, front := range fronts() {
		for _, n := range numbers() {
			wantGet(t, pack.Put(front, n), len(front), n, len(front)+pack.Size(n), api.OK)
		}
		for _, n := range signeds() {
			b := pack.PutInt(front, n)
			if got, end, e := pack.GetInt(b, len(front)); got != n || end != len(b) || e != api.OK {
				t.Errorf("GetInt(%x, %d) = %d, %d, %v, want %d", b, len(front), got, end, e, n)
			}
		}
		for _, s := range texts() {
			b := pack.PutText(front, s)
			wantText(t, b, len(front), len(s), s, len(b), api.OK)
		}
		for _, bits := range realBits() {
			b := pack.PutReal(front, math.Float64frombits(bits))
			wantReal(t, b, len(front), bits, len(b), api.OK)
		}
	}
}

// stood tells whether bytes are those that stood from a place to another.
func stood(put, b []byte, at, end int) bool {
	return at >= 0 && at <= end && end <= len(b) && bytes.Equal(put, b[at:end])
}

func TestWhatIsGotIsPutAsItStood(t *testing.T) {
	rows := longRows()
	for i, n := range noise(21, 3000) {
		b := joined(bigEnd(n), bigEnd(n*n))
		b[0] = byte(i % 15) // often a length that is there
		rows = append(rows, b)
	}
	for _, b := range rows {
		for at := range len(b) + 1 {
			if n, end, e := pack.Get(b, at); e == api.OK && !stood(pack.Put(nil, n), b, at, end) {
				t.Errorf("Get(%x, %d) = %d, %d, which is put as %x", b, at, n, end, pack.Put(nil, n))
			}
			if n, end, e := pack.GetInt(b, at); e == api.OK && !stood(pack.PutInt(nil, n), b, at, end) {
				t.Errorf("GetInt(%x, %d) = %d, %d, which is put as %x", b, at, n, end, pack.PutInt(nil, n))
			}
			if s, end, e := pack.GetText(b, at, 300); e == api.OK && !stood(pack.PutText(nil, s), b, at, end) {
				t.Errorf("GetText(%x, %d) = %q, %d, which is put as %x", b, at, s, end, pack.PutText(nil, s))
			}
			if x, end, e := pack.GetReal(b, at); e == api.OK && !stood(pack.PutReal(nil, x), b, at, end) {
				t.Errorf("GetReal(%x, %d) = %v, %d, which is put as %x", b, at, x, end, pack.PutReal(nil, x))
			}
		}
	}
}

// R3, R4, R5

// puts are all calls that put something, each of a short and of a long writing.
func puts() []func([]byte) []byte {
	return []func([]byte) []byte{
		func(b []byte) []byte { return pack.Put(b, 5) },
		func(b []byte) []byte { return pack.Put(b, math.MaxUint64) },
		func(b []byte) []byte { return pack.PutInt(b, 5) },
		func(b []byte) []byte { return pack.PutInt(b, math.MinInt64) },
		func(b []byte) []byte { return pack.PutText(b, "") },
		func(b []byte) []byte { return pack.PutText(b, "a text") },
		func(b []byte) []byte { return pack.PutReal(b, 0.1) },
	}
}

func TestWhatIsPutLiesInNewMemory(t *testing.T) {
	for i, put := range puts() {
		whole := bytes.Repeat([]byte{0xaa}, 64)
		b := whole[:5] // there would be room behind it
		got := put(b)
		want := bytes.Clone(got)
		if !bytes.Equal(whole, bytes.Repeat([]byte{0xaa}, 64)) {
			t.Errorf("put %d writes into what was handed in: %x", i, whole)
		}
		for k := range whole {
			whole[k] = 0x55
		}
		if !bytes.Equal(got, want) {
			t.Errorf("put %d answers memory that was handed in", i)
		}
		for k := range got {
			got[k] = 0x77
		}
		if !bytes.Equal(whole, bytes.Repeat([]byte{0x55}, 64)) {
			t.Errorf("put %d answers memory that was handed in", i)
		}
	}
}

func TestTwoPutsBehindOneRowShareNothing(t *testing.T) {
	for i, put := range puts() {
		front := pack.Put(nil, 300)
		a, b := put(front), pack.Put(front, 77)
		want := put(bytes.Clone(front))
		for k := range b {
			b[k] = 0
		}
		if !bytes.Equal(a, want) || !bytes.Equal(front, plainNumber(300)) {
			t.Errorf("put %d: what is put later behind the same row changes %x to %x", i, want, a)
		}
	}
}

func TestPutBehindNilIsBehindNothing(t *testing.T) {
	for i, put := range puts() {
		if !bytes.Equal(put(nil), put([]byte{})) || len(put(nil)) == 0 {
			t.Errorf("put %d: behind nil %x, behind nothing %x", i, put(nil), put([]byte{}))
		}
	}
}

func TestWhatIsGotFromStays(t *testing.T) {
	b := pack.PutText(pack.Put(nil, 9), "a text")
	was := bytes.Clone(b)
	s, _, e := pack.GetText(b, 1, 10)
	pack.Get(b, 0)
	pack.GetInt(b, 0)
	pack.GetReal(b, 0)
	if !bytes.Equal(b, was) {
		t.Errorf("getting changed %x to %x", was, b)
	}
	for i := range b {
		b[i] = 'z'
	}
	if s != "a text" || e != api.OK {
		t.Errorf("the text became %q, %v, as the bytes were written over", s, e)
	}
}
