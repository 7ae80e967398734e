package value_test

import (
	"bytes"
	"encoding/binary"
	"fmt"
	"math"
	"math/big"
	"slices"
	"strings"
	"testing"

	"equerry/api"
	"equerry/value"
)

const (
	theNaN   uint64 = 0x7ff8000000000000
	infinity uint64 = 0x7ff0000000000000
	sign     uint64 = 1 << 63
)

func whole(n int64) api.Value { return api.Value{Kind: api.Whole, Int: n} }

func number(x float64) api.Value { return api.Value{Kind: api.Real, Real: x} }

func ofBits(bits uint64) api.Value { return number(math.Float64frombits(bits)) }

func text(s string) api.Value { return api.Value{Kind: api.Text, Text: s} }

// minus is -0, which Go's constants have no writing of.
func minus() float64 { return math.Copysign(0, -1) }

// long is a text of n bytes, of any kind of byte.
func long(n int) string { return strings.Repeat("equerry\x00\xff", n/9+1)[:n] }

// noise is n numbers that look like chance, and are the same each time.
func noise(seed uint64, n int) []uint64 {
	all := make([]uint64, n)
	for i := range all {
		seed = seed*6364136223846793005 + 1442695040888963407
		all[i] = seed ^ seed>>29
	}
	return all
}

// ints are whole numbers around 0, where a writing grows, where a float64 has no room for them any more, and at both ends.
func ints() []int64 {
	all := []int64{0, math.MaxInt64, math.MinInt64}
	for _, n := range []int64{1, 2, 3, 63, 64, 65, 8191, 8192, 1 << 31, 1<<53 - 1, 1 << 53, 1<<53 + 1, 1<<53 + 2, 1<<53 + 3, 1 << 62, 1<<62 + 1, 1<<63 - 1025, 1<<63 - 1024, 1<<63 - 1023, math.MaxInt64 - 1} {
		all = append(all, n, -n)
	}
	return all
}

// realBits are bits of real numbers of each class and sign, many of them near to ints, and the NaN's.
func realBits() []uint64 {
	all := []uint64{theNaN}
	for _, b := range []uint64{0, 1, 1<<52 - 1, 1 << 52, infinity - 1, infinity} {
		all = append(all, b, b|sign)
	}
	for _, x := range []float64{0.1, 0.5, 1, 1.5, 2, 2.5, 3, 63, 64.5, 8191.5, 1 << 31, 1<<53 - 1, 1 << 53, 1<<53 + 2, 1<<53 + 4, 1 << 62, 1<<63 - 1024, 1 << 63, 1<<63 + 2048, 1 << 64} {
		all = append(all, math.Float64bits(x), math.Float64bits(-x))
	}
	return all
}

// otherNaNs are bits of NaNs that aren't the NaN's, quiet and signalling, of both signs.
func otherNaNs() []uint64 {
	return []uint64{infinity + 1, theNaN - 1, theNaN + 1, 0x7ff4000000000000, 0x7fffffffffffffff, infinity | sign + 1, theNaN | sign, theNaN | sign + 1, 0xfff4000000000000, 0xffffffffffffffff}
}

// texts are texts of which one is the beginning of another, some that runes would order otherwise than bytes do, and those at the edges of length.
func texts() []string {
	return []string{"", "\x00", "\x00\x00", "1", "a", "a\x00", "aa", "ab", "abc", "abd", "b", "ba", "B", "\x7f", "\x80", "\xc3", "gr\u00fc\u00df", "\uffff", "\U0001f40e", "\xff", "\xff\xfe", "\xff\xff", long(127), long(128), long(253), long(254), long(255), long(254) + "\x00", long(254) + "\xff"}
}

// values are values that may be, of all kinds.
func values() []api.Value {
	all := []api.Value{{}}
	for _, n := range ints() {
		all = append(all, whole(n))
	}
	for _, b := range append(realBits(), otherNaNs()...) {
		all = append(all, ofBits(b))
	}
	for _, s := range texts() {
		all = append(all, text(s))
	}
	return all
}

// fillings are values of one kind with fields of all sorts, zero and not, whether the kind names them or doesn't.
func fillings(kind uint8) []api.Value {
	var all []api.Value
	for _, n := range []int64{0, 1, -1, math.MinInt64} {
		for _, b := range []uint64{0, sign, 1, math.Float64bits(1), infinity, theNaN, theNaN | sign + 1} {
			for _, s := range []string{"", "\x00", "a", long(255), long(256), long(70000)} {
				all = append(all, api.Value{Kind: kind, Int: n, Real: math.Float64frombits(b), Text: s})
			}
		}
	}
	return all
}

// noKinds are kinds that are none.
func noKinds() []uint8 { return []uint8{4, 5, 7, 16, 127, 128, 129, 130, 131, 254, 255} }

// wrongs are values that may not be.
func wrongs() []api.Value {
	all := []api.Value{
		{Kind: api.None, Int: 1}, {Kind: api.None, Real: 1}, {Kind: api.None, Real: minus()}, {Kind: api.None, Real: math.NaN()}, {Kind: api.None, Text: "a"},
		{Kind: api.Whole, Int: 1, Real: 1}, {Kind: api.Whole, Int: 1, Real: minus()}, {Kind: api.Whole, Real: math.NaN()}, {Kind: api.Whole, Int: 1, Text: "a"},
		{Kind: api.Real, Int: 1, Real: 1}, {Kind: api.Real, Int: -1}, {Kind: api.Real, Real: 1, Text: "a"},
		{Kind: api.Text, Int: 1, Text: "a"}, {Kind: api.Text, Real: 1, Text: "a"}, {Kind: api.Text, Real: minus(), Text: "a"}, {Kind: api.Text, Real: math.NaN()},
		text(long(256)), text(long(257)), text(long(511)), text(long(70000)),
	}
	for _, k := range noKinds() {
		all = append(all, api.Value{Kind: k}, api.Value{Kind: k, Int: 1}, api.Value{Kind: k, Real: 1}, api.Value{Kind: k, Text: "a"})
	}
	return all
}

// short is a value as a message tells it.
func short(v api.Value) string {
	return fmt.Sprintf("{%d %d %v %.12q of %d}", v.Kind, v.Int, v.Real, v.Text, len(v.Text))
}

// identical tells whether two are the same to the last bit, fields that count for nothing among them.
func identical(a, b api.Value) bool {
	return a.Kind == b.Kind && a.Int == b.Int && math.Float64bits(a.Real) == math.Float64bits(b.Real) && a.Text == b.Text
}

// P4.1: May

// plainMay is the chapter's: all fields that a kind doesn't name are taken away, and that must change nothing.
func plainMay(v api.Value) bool {
	named := map[uint8]api.Value{
		api.None:  {},
		api.Whole: {Kind: api.Whole, Int: v.Int},
		api.Real:  {Kind: api.Real, Real: v.Real},
		api.Text:  {Kind: api.Text, Text: v.Text},
	}
	left, is := named[v.Kind]
	return is && identical(left, v) && len(left.Text) < 256
}

func TestMayOfAllKindsAndFields(t *testing.T) {
	for kind := range 256 {
		for _, v := range fillings(uint8(kind)) {
			if got := value.May(v); got != plainMay(v) {
				t.Errorf("May(%v) = %v", short(v), got)
			}
		}
	}
}

func TestMayOfWhatMayBe(t *testing.T) {
	for _, v := range values() {
		if !value.May(v) {
			t.Errorf("May(%v) = false", short(v))
		}
	}
}

func TestMayOfWhatMayNotBe(t *testing.T) {
	for _, v := range wrongs() {
		if value.May(v) {
			t.Errorf("May(%v) = true", short(v))
		}
	}
}

func TestMayOfTextsByLength(t *testing.T) {
	for n := range 600 {
		if got := value.May(text(long(n))); got != (n <= 255) {
			t.Errorf("May of a text of %d bytes = %v", n, got)
		}
	}
}

// A text's length is that of its bytes: runes that have several count for several.
func TestMayCountsBytes(t *testing.T) {
	for s, want := range map[string]bool{
		strings.Repeat("\u00fc", 127):       true,
		strings.Repeat("\u00fc", 128):       false,
		strings.Repeat("\u00fc", 127) + "a": true,
		strings.Repeat("\U0001f40e", 64):    false,
	} {
		if got := value.May(text(s)); got != want {
			t.Errorf("May of a text of %d bytes = %v", len(s), got)
		}
	}
}

func TestMayOfZerosInFieldsThatAreNotNamed(t *testing.T) {
	for _, kind := range []uint8{api.None, api.Whole, api.Text} {
		if !value.May(api.Value{Kind: kind, Real: 0}) {
			t.Errorf("kind %d with a Real of 0 may not be", kind)
		}
		if value.May(api.Value{Kind: kind, Real: minus()}) {
			t.Errorf("kind %d with a Real of -0 may be", kind)
		}
	}
}

// P4.1: Same

// held is a value's kind, and what that holds; whatever else stands in its fields doesn't come in.
type held struct {
	kind uint8
	n    int64
	bits uint64
	s    string
}

func plainHeld(v api.Value) held {
	h := held{kind: v.Kind}
	switch {
	case v.Kind == api.Whole:
		h.n = v.Int
	case v.Kind == api.Real && math.IsNaN(v.Real):
		h.bits = theNaN
	case v.Kind == api.Real:
		h.bits = math.Float64bits(v.Real)
	case v.Kind == api.Text:
		h.s = v.Text
	}
	return h
}

func TestSameOfAll(t *testing.T) {
	all := append(values(), wrongs()...)
	for _, kind := range []uint8{api.None, api.Whole, api.Real, api.Text, 4, 255} {
		all = append(all, fillings(kind)...)
	}
	for _, a := range all {
		for _, b := range all {
			if got := value.Same(a, b); got != (plainHeld(a) == plainHeld(b)) {
				t.Fatalf("Same(%v, %v) = %v", short(a), short(b), got)
			}
		}
	}
}

func TestSameAtTheEdges(t *testing.T) {
	for i, c := range []struct {
		a, b api.Value
		want bool
	}{
		{api.Value{}, api.Value{}, true},
		{api.Value{}, api.Value{Int: 1, Real: 2, Text: "a"}, true},
		{api.Value{}, whole(0), false},
		{whole(0), number(0), false},
		{whole(0), text(""), false},
		{number(0), text(""), false},
		{whole(5), whole(5), true},
		{whole(5), whole(-5), false},
		{whole(1 << 53), whole(1<<53 + 1), false},
		{whole(math.MinInt64), whole(math.MinInt64), true},
		{whole(5), api.Value{Kind: api.Whole, Int: 5, Real: 7, Text: "a"}, true},
		{number(0.5), number(0.5), true},
		{number(0), number(minus()), false},
		{number(minus()), number(minus()), true},
		{number(math.NaN()), number(math.NaN()), true},
		{number(math.NaN()), ofBits(theNaN | sign), true},
		{ofBits(infinity + 1), ofBits(0xffffffffffffffff), true},
		{number(math.NaN()), number(math.Inf(1)), false},
		{number(math.Inf(1)), number(math.Inf(-1)), false},
		{number(0.5), api.Value{Kind: api.Real, Real: 0.5, Int: 7, Text: "a"}, true},
		{text(""), text(""), true},
		{text("a"), text("a"), true},
		{text("a"), text("ab"), false},
		{text("a"), text("A"), false},
		{text("a"), text("a\x00"), false},
		{text(long(256)), text(long(256)), true},
		{text(long(256)), text(long(255)), false},
		{text("a"), api.Value{Kind: api.Text, Text: "a", Int: 7, Real: math.NaN()}, true},
		{api.Value{Kind: 4}, api.Value{Kind: 4}, true},
		{api.Value{Kind: 4, Int: 1, Real: 1, Text: "a"}, api.Value{Kind: 4, Int: 2, Real: 2, Text: "b"}, true},
		{api.Value{Kind: 255, Real: math.NaN()}, api.Value{Kind: 255}, true},
		{api.Value{Kind: 4}, api.Value{Kind: 5}, false},
		{api.Value{Kind: 4}, api.Value{}, false},
		{api.Value{Kind: 129, Int: 5}, whole(5), false},
	} {
		if got := value.Same(c.a, c.b); got != c.want {
			t.Errorf("%d: Same = %v", i, got)
		}
		if got := value.Same(c.b, c.a); got != c.want {
			t.Errorf("%d, the other way round: Same = %v", i, got)
		}
	}
}

// P4.1: Compare

// plainNumber is the exact number that a value is, if it is one.
func plainNumber(v api.Value) (*big.Float, bool) {
	switch {
	case v.Kind == api.Whole:
		return new(big.Float).SetInt64(v.Int), true
	case v.Kind == api.Real && !math.IsNaN(v.Real):
		return new(big.Float).SetFloat64(v.Real), true
	}
	return nil, false
}

// plainTexts compares texts byte by byte.
func plainTexts(a, b string) int {
	for i := range min(len(a), len(b)) {
		if a[i] < b[i] {
			return -1
		}
		if a[i] > b[i] {
			return 1
		}
	}
	switch {
	case len(a) < len(b):
		return -1
	case len(a) > len(b):
		return 1
	}
	return 0
}

// plainCompare is the chapter's, by exact numbers.
func plainCompare(a, b api.Value) (int, bool) {
	if !plainMay(a) || !plainMay(b) {
		return 0, false
	}
	if a.Kind == api.Text && b.Kind == api.Text {
		return plainTexts(a.Text, b.Text), true
	}
	x, isX := plainNumber(a)
	y, isY := plainNumber(b)
	if !isX || !isY {
		return 0, false
	}
	return x.Cmp(y), true
}

func TestCompareOfAll(t *testing.T) {
	all := append(values(), wrongs()...)
	for _, a := range all {
		for _, b := range all {
			got, ok := value.Compare(a, b)
			if want, is := plainCompare(a, b); got != want || ok != is {
				t.Fatalf("Compare(%v, %v) = %d, %v, want %d, %v", short(a), short(b), got, ok, want, is)
			}
		}
	}
}

func TestCompareAtTheEdges(t *testing.T) {
	for i, c := range []struct {
		a, b api.Value
		want int
	}{
		{whole(1), whole(2), -1},
		{whole(2), whole(2), 0},
		{whole(-1), whole(1), -1},
		{whole(math.MinInt64), whole(math.MaxInt64), -1},
		{whole(2), number(2.5), -1},
		{whole(3), number(2.5), 1},
		{whole(-3), number(-2.5), -1},
		{whole(-2), number(-2.5), 1},
		{whole(0), number(0), 0},
		{whole(0), number(minus()), 0},
		{whole(0), number(math.SmallestNonzeroFloat64), -1},
		{whole(0), number(-math.SmallestNonzeroFloat64), 1},
		{whole(1<<53 + 1), number(1 << 53), 1},
		{whole(1<<53 + 1), number(1<<53 + 2), -1},
		{whole(-1<<53 - 1), number(-1 << 53), -1},
		{whole(math.MaxInt64), number(1 << 63), -1},
		{whole(math.MaxInt64), number(1<<63 - 1024), 1},
		{whole(math.MinInt64), number(-1 << 63), 0},
		{whole(math.MinInt64 + 1), number(-1 << 63), 1},
		{whole(math.MaxInt64), number(math.Inf(1)), -1},
		{whole(math.MinInt64), number(math.Inf(-1)), 1},
		{number(0), number(minus()), 0},
		{number(0.1), number(0.2), -1},
		{number(math.Inf(-1)), number(math.Inf(1)), -1},
		{number(math.Inf(1)), number(math.Inf(1)), 0},
		{number(math.MaxFloat64), number(math.Inf(1)), -1},
		{text(""), text(""), 0},
		{text(""), text("\x00"), -1},
		{text("a"), text("a"), 0},
		{text("a"), text("ab"), -1},
		{text("ab"), text("b"), -1},
		{text("B"), text("a"), -1},
		{text("10"), text("9"), -1},
		{text("\x7f"), text("\x80"), -1},
		{text("\uffff"), text("\U0001f40e"), -1},
		{text("\U0001f40e"), text("\xff"), -1},
		{text(long(254)), text(long(255)), -1},
		{text(long(255)), text(long(255)), 0},
		{text(long(254) + "\x00"), text(long(254) + "\xff"), -1},
	} {
		if got, ok := value.Compare(c.a, c.b); got != c.want || !ok {
			t.Errorf("%d: Compare = %d, %v, want %d", i, got, ok, c.want)
		}
		if got, ok := value.Compare(c.b, c.a); got != -c.want || !ok {
			t.Errorf("%d, the other way round: Compare = %d, %v, want %d", i, got, ok, -c.want)
		}
	}
}

// notCompared wants 0 and false, in both orders.
func notCompared(t *testing.T, a, b api.Value) {
	t.Helper()
	if got, ok := value.Compare(a, b); got != 0 || ok {
		t.Errorf("Compare(%v, %v) = %d, %v", short(a), short(b), got, ok)
	}
	if got, ok := value.Compare(b, a); got != 0 || ok {
		t.Errorf("Compare(%v, %v) = %d, %v", short(b), short(a), got, ok)
	}
}

func TestNaNsAreNotCompared(t *testing.T) {
	for _, b := range append(otherNaNs(), theNaN) {
		for _, v := range append(values(), wrongs()...) {
			notCompared(t, ofBits(b), v)
		}
	}
}

func TestNothingIsNotCompared(t *testing.T) {
	for _, v := range values() {
		notCompared(t, api.Value{}, v)
	}
}

func TestTextsAreNotComparedWithNumbers(t *testing.T) {
	for _, s := range texts() {
		for _, v := range values() {
			if v.Kind != api.Text {
				notCompared(t, text(s), v)
			}
		}
	}
}

// Beside one that may not be, the other one, or its own copy, may be what it likes.
func TestWhatMayNotBeIsNotCompared(t *testing.T) {
	for _, a := range wrongs() {
		notCompared(t, a, a)
		for _, b := range append(values(), wrongs()...) {
			notCompared(t, a, b)
		}
	}
}

// P4.1: Put

// highestFirst is the eight bytes of some bits.
func highestFirst(bits uint64) []byte { return binary.BigEndian.AppendUint64(nil, bits) }

// plainPut is the chapter's writing of a value that may be; the library's own numbers are those of layer 3.
func plainPut(v api.Value) []byte {
	h := plainHeld(v)
	switch v.Kind {
	case api.Whole:
		return binary.AppendVarint([]byte{1}, h.n)
	case api.Real:
		return append([]byte{2}, highestFirst(h.bits)...)
	case api.Text:
		return append(binary.AppendUvarint([]byte{3}, uint64(len(h.s))), h.s...)
	}
	return []byte{0}
}

// fronts are bytes that a writing stands behind.
func fronts() [][]byte {
	return [][]byte{nil, {}, {0}, {3}, {0x80}, {0xff, 0xff}, []byte("front"), bytes.Repeat([]byte{0x80}, 300)}
}

// behinds are bytes that stand behind a writing.
func behinds() [][]byte {
	return [][]byte{nil, {0}, {1}, {0x80}, {0xff}, []byte("behind"), bytes.Repeat([]byte{0xff}, 300)}
}

// joined is its parts, one behind the other, in memory of its own.
func joined(parts ...[]byte) []byte { return bytes.Join(parts, nil) }

// put is a value's writing, of a value that may be.
func put(t testing.TB, b []byte, v api.Value) []byte {
	t.Helper()
	got, e := value.Put(b, v)
	if e != api.OK {
		t.Fatalf("Put(%x, %v) = %v", b, short(v), e)
	}
	return got
}

func TestPutOfKnownValues(t *testing.T) {
	for want, v := range map[string]api.Value{
		"\x00":                                 {},
		"\x01\x00":                             whole(0),
		"\x01\x01":                             whole(-1),
		"\x01\x02":                             whole(1),
		"\x01\x09":                             whole(-5),
		"\x01\xd8\x04":                         whole(300),
		"\x01\x7f":                             whole(-64),
		"\x01\x80\x01":                         whole(64),
		"\x02\x00\x00\x00\x00\x00\x00\x00\x00": number(0),
		"\x02\x80\x00\x00\x00\x00\x00\x00\x00": number(minus()),
		"\x02\x3f\xd0\x00\x00\x00\x00\x00\x00": number(0.25),
		"\x02\x7f\xf8\x00\x00\x00\x00\x00\x00": number(math.NaN()),
		"\x02\xff\xf0\x00\x00\x00\x00\x00\x00": number(math.Inf(-1)),
		"\x03\x00":                             text(""),
		"\x03\x03abc":                          text("abc"),
		"\x03\xff\x01" + long(255):             text(long(255)),
		"\x01\xff\xff\xff\xff\xff\xff\xff\xff\xff\x01": whole(math.MinInt64),
		"\x01\xfe\xff\xff\xff\xff\xff\xff\xff\xff\x01": whole(math.MaxInt64),
	} {
		if got := put(t, nil, v); string(got) != want {
			t.Errorf("Put(nil, %v) = %x, want %x", short(v), got, want)
		}
	}
}

func TestPutOfAll(t *testing.T) {
	for _, v := range values() {
		for _, front := range fronts() {
			if got := put(t, front, v); !bytes.Equal(got, joined(front, plainPut(v))) {
				t.Errorf("Put(%x, %v) = %x", front, short(v), got)
			}
		}
	}
}

func TestPutOfAllNaNsIsTheNaNs(t *testing.T) {
	for _, b := range otherNaNs() {
		if got := put(t, nil, ofBits(b)); string(got) != "\x02\x7f\xf8\x00\x00\x00\x00\x00\x00" {
			t.Errorf("Put of the NaN of bits %#x = %x", b, got)
		}
	}
}

func TestPutOfWhatMayNotBe(t *testing.T) {
	for _, v := range wrongs() {
		for _, front := range fronts() {
			if got, e := value.Put(front, v); len(got) != 0 || e != api.ErrArg {
				t.Errorf("Put(%x, %v) = %x, %v", front, short(v), got, e)
			}
		}
	}
}

// P4.1: Get

// wantGet wants a value to the last bit, where it ends, and an error.
func wantGet(t *testing.T, b []byte, at int, v api.Value, end int, e api.Errno) {
	t.Helper()
	got, stop, f := value.Get(b, at)
	if !identical(got, v) || stop != end || f != e {
		t.Errorf("Get(%.20x of %d, %d) = %v, %d, %v, want %v, %d, %v", b, len(b), at, short(got), stop, f, short(v), end, e)
	}
}

// wantError wants an error, and nothing beside it, behind every front.
func wantError(t *testing.T, row []byte, e api.Errno) {
	t.Helper()
	for _, front := range fronts() {
		wantGet(t, joined(front, row), len(front), api.Value{}, 0, e)
	}
}

// plainValue is a value as it comes back: of all NaNs the NaN.
func plainValue(v api.Value) api.Value {
	if v.Kind == api.Real && math.IsNaN(v.Real) {
		v.Real = math.Float64frombits(theNaN)
	}
	return v
}

func TestGetOfAll(t *testing.T) {
	for _, v := range values() {
		row := plainPut(v)
		for _, front := range fronts() {
			for _, behind := range behinds() {
				wantGet(t, joined(front, row, behind), len(front), plainValue(v), len(front)+len(row), api.OK)
			}
		}
	}
}

func TestGetAtPlacesThatAreNone(t *testing.T) {
	room := bytes.Repeat([]byte{0}, 64)
	for _, b := range [][]byte{nil, {}, {0}, {4}, {0, 0}, {1, 2}, []byte("\x03\x02ab"), room[:0], room[:1], room[:9], room} {
		for _, at := range []int{len(b), len(b) + 1, len(b) + 9, 1 << 31, 1 << 32, math.MaxInt - 1, math.MaxInt, -1, -2, -9, -1 << 31, -1 << 32, math.MinInt, math.MinInt + 1} {
			wantGet(t, b, at, api.Value{}, 0, api.ErrShort)
		}
	}
}

func TestGetOfKindsThatAreNone(t *testing.T) {
	for kind := 4; kind < 256; kind++ {
		for _, behind := range append(behinds(), []byte("\x02ab"), highestFirst(theNaN), highestFirst(theNaN+1)) {
			wantError(t, joined([]byte{byte(kind)}, behind), api.ErrKind)
		}
	}
}

func TestGetOfTooFewBytes(t *testing.T) {
	for _, v := range values() {
		row := plainPut(v)
		for have := range row {
			wantGet(t, row[:have], 0, api.Value{}, 0, api.ErrShort) // what is behind the length doesn't count
			wantError(t, bytes.Clone(row[:have]), api.ErrShort)
		}
	}
	for _, bits := range otherNaNs() {
		for have := range 8 {
			wantError(t, joined([]byte{api.Real}, highestFirst(bits)[:have]), api.ErrShort)
		}
	}
}

func TestGetOfLongTexts(t *testing.T) {
	for _, n := range []uint64{256, 257, 300, 16383, 16384, 1 << 31, 1 << 32, 1<<32 + 3, 1 << 62, math.MaxInt64, 1 << 63, 1<<63 + 3, math.MaxUint64 - 1, math.MaxUint64} {
		head := binary.AppendUvarint([]byte{api.Text}, n)
		wantError(t, head, api.ErrLong)
		wantError(t, joined(head, []byte("abc")), api.ErrLong)
		wantError(t, joined(head, bytes.Repeat([]byte("a"), int(min(n, 20000)))), api.ErrLong)
	}
}

func TestGetOfTextsAtTheirMost(t *testing.T) {
	for _, n := range []int{0, 1, 127, 128, 254, 255} {
		row := joined(binary.AppendUvarint([]byte{api.Text}, uint64(n)), []byte(long(n)))
		wantGet(t, row, 0, text(long(n)), len(row), api.OK)
		if n > 0 {
			wantError(t, row[:len(row)-1:len(row)-1], api.ErrShort)
		}
	}
}

// The errors of layer 3, of a number and of a text's length.
func TestGetOfNumbersThatAreNone(t *testing.T) {
	nine := bytes.Repeat([]byte{0xff}, 9)
	for _, kind := range []byte{api.Whole, api.Text} {
		wantError(t, []byte{kind, 0x80}, api.ErrShort)
		wantError(t, joined([]byte{kind}, nine), api.ErrShort)
		wantError(t, joined([]byte{kind}, nine, []byte{2}), api.ErrLong)
		wantError(t, joined([]byte{kind}, nine, []byte{0x80}), api.ErrLong)
		wantError(t, joined([]byte{kind}, nine, []byte{0xff, 0}), api.ErrLong)
		wantError(t, joined([]byte{kind}, nine, []byte{0}), api.ErrForm)
		wantError(t, []byte{kind, 0x80, 0}, api.ErrForm)
		wantError(t, []byte{kind, 0xff, 0, 'a'}, api.ErrForm)
		wantError(t, []byte{kind, 0x80, 0x80, 0, 0}, api.ErrForm)
	}
}

func TestGetOfBitsThatAreNones(t *testing.T) {
	for _, bits := range otherNaNs() {
		for _, behind := range behinds() {
			wantError(t, joined([]byte{api.Real}, highestFirst(bits), behind), api.ErrForm)
		}
	}
}

// plainLength is the chapter's number at the front of a row (layer 3), and how many bytes it has.
func plainLength(row []byte) (uint64, int, api.Errno) {
	last := slices.IndexFunc(row, func(c byte) bool { return c < 128 })
	switch {
	case len(row) >= 10 && (last < 0 || last >= 9) && row[9] > 1:
		return 0, 0, api.ErrLong
	case last < 0:
		return 0, 0, api.ErrShort
	case last > 0 && row[last] == 0:
		return 0, 0, api.ErrForm
	}
	n, size := binary.Uvarint(row)
	return n, size, api.OK
}

// plainGet is the chapter's Get of the front of a row, which isn't empty.
func plainGet(row []byte) (api.Value, int, api.Errno) {
	kind, rest := row[0], row[1:]
	switch kind {
	case api.None:
		return api.Value{}, 1, api.OK
	case api.Whole, api.Text:
		n, size, e := plainLength(rest)
		if e != api.OK {
			return api.Value{}, 0, e
		}
		if kind == api.Whole {
			signed, _ := binary.Varint(rest)
			return whole(signed), 1 + size, api.OK
		}
		if n > 255 {
			return api.Value{}, 0, api.ErrLong
		}
		if int(n) > len(rest)-size {
			return api.Value{}, 0, api.ErrShort
		}
		return text(string(rest[size : size+int(n)])), 1 + size + int(n), api.OK
	case api.Real:
		if len(rest) < 8 {
			return api.Value{}, 0, api.ErrShort
		}
		bits := binary.BigEndian.Uint64(rest)
		if math.IsNaN(math.Float64frombits(bits)) && bits != theNaN {
			return api.Value{}, 0, api.ErrForm
		}
		return ofBits(bits), 9, api.OK
	}
	return api.Value{}, 0, api.ErrKind
}

// anyRows are rows of all bytes at the edges, and of noise, that often begin with a kind.
func anyRows() [][]byte {
	edges := []byte{0, 1, 2, 3, 4, 0x7f, 0x80, 0x82, 0xff}
	var all [][]byte
	for _, a := range edges {
		for _, b := range edges {
			for _, c := range edges {
				for _, d := range edges {
					all = append(all, []byte{a, b, c, d})
				}
			}
		}
	}
	for i, n := range noise(11, 4000) {
		row := joined(highestFirst(n), highestFirst(n*n), highestFirst(n^n>>7))
		row[0], row[1] = byte(i%5), row[1]>>(i%8)
		if i%11 == 0 {
			copy(row[1:], bytes.Repeat([]byte{0xff}, 9+i%3))
		}
		all = append(all, row)
	}
	return all
}

func TestGetOfAnyBytes(t *testing.T) {
	for _, b := range anyRows() {
		for at := range b {
			v, size, e := plainGet(b[at:])
			if e == api.OK {
				size += at
			}
			wantGet(t, b, at, v, size, e)
		}
	}
}

// P4.2

func TestWhatIsPutIsGotAsItWas(t *testing.T) {
	for _, v := range values() {
		for _, front := range fronts() {
			b := put(t, front, v)
			got, end, e := value.Get(b, len(front))
			if !value.Same(got, v) || plainHeld(got) != plainHeld(v) || end != len(b) || e != api.OK {
				t.Errorf("%v came back as %v, %d of %d, %v", short(v), short(got), end, len(b), e)
			}
		}
	}
}

// Values of all kinds, one behind the other: each is got where the last one ended.
func TestWhatIsPutIsGotWhereverItStands(t *testing.T) {
	var row []byte
	for _, v := range values() {
		row = put(t, row, v)
	}
	at := 0
	for _, v := range values() {
		got, end, e := value.Get(row, at)
		if !value.Same(got, v) || e != api.OK {
			t.Fatalf("at %d stands %v, %v, want %v", at, short(got), e, short(v))
		}
		at = end
	}
	if at != len(row) {
		t.Errorf("the last ends at %d of %d", at, len(row))
	}
}

// asItStood wants what is got to be one that may be, and to be put as it stood.
func asItStood(t *testing.T, b []byte, at int) {
	t.Helper()
	v, end, e := value.Get(b, at)
	if e != api.OK {
		return
	}
	if !value.May(v) || !plainMay(v) {
		t.Errorf("Get(%x, %d) = %v, which may not be", b, at, short(v))
		return
	}
	if end <= at || end > len(b) || !bytes.Equal(put(t, nil, v), b[at:end]) {
		t.Errorf("Get(%x, %d) = %v, %d, which is put as %x", b, at, short(v), end, put(t, nil, v))
	}
}

func TestWhatIsGotMayBeAndIsPutAsItStood(t *testing.T) {
	for _, b := range anyRows() {
		for at := range b {
			asItStood(t, b, at)
		}
	}
	for _, v := range values() {
		asItStood(t, joined(plainPut(v), []byte("behind")), 0)
	}
}

// P4.3

func TestComparingIsTheOtherWayRound(t *testing.T) {
	all := append(values(), wrongs()...)
	for _, a := range all {
		for _, b := range all {
			there, ok := value.Compare(a, b)
			back, is := value.Compare(b, a)
			if there != -back || ok != is {
				t.Fatalf("Compare(%v, %v) = %d, %v, the other way round %d, %v", short(a), short(b), there, ok, back, is)
			}
		}
	}
}

// told is what Compare tells of each two of a row of values; 2, if they aren't compared.
func told(all []api.Value) [][]int {
	rows := make([][]int, len(all))
	for i, a := range all {
		for _, b := range all {
			c, ok := value.Compare(a, b)
			if !ok {
				c = 2
			}
			rows[i] = append(rows[i], c)
		}
	}
	return rows
}

// So is what is the same as what is less: no number is rounded on the way from one kind to the other.
func TestWhatIsLessThanWhatIsLessIsLess(t *testing.T) {
	all := append(values(), wrongs()...)
	rows := told(all)
	for i := range all {
		for k := range all {
			if rows[i][k] > 0 {
				continue
			}
			for n := range all {
				if rows[k][n] > 0 {
					continue
				}
				if want := min(rows[i][k], rows[k][n]); rows[i][n] != want {
					t.Fatalf("%v, %v, %v: %d, %d, but %d", short(all[i]), short(all[k]), short(all[n]), rows[i][k], rows[k][n], rows[i][n])
				}
			}
		}
	}
}

// Numbers of both kinds that a rounded comparison would put in a ring.
func TestNumbersStandInOneRow(t *testing.T) {
	row := []api.Value{number(math.Inf(-1)), number(-1<<63 - 2048), whole(math.MinInt64), whole(math.MinInt64 + 1), number(-1<<63 + 1024), whole(-1<<53 - 1), number(-1 << 53), number(-0.5), number(minus()), number(0.5), whole(1), whole(1<<53 - 1), number(1 << 53), whole(1<<53 + 1), number(1<<53 + 2), whole(1<<53 + 3), number(1<<63 - 1024), whole(math.MaxInt64 - 1), whole(math.MaxInt64), number(1 << 63), number(math.Inf(1))}
	for i, a := range row {
		for k, b := range row {
			want := 0
			switch {
			case i < k:
				want = -1
			case i > k:
				want = 1
			}
			if got, ok := value.Compare(a, b); got != want || !ok {
				t.Errorf("Compare(%v, %v) = %d, %v, want %d", a, b, got, ok, want)
			}
		}
	}
}

// R3, R4, R5

func TestWhatIsPutLiesInNewMemory(t *testing.T) {
	for _, v := range values() {
		room := bytes.Repeat([]byte{0xaa}, 400)
		got := put(t, room[:5], v) // it would fit behind them
		want := bytes.Clone(got)
		if !bytes.Equal(room, bytes.Repeat([]byte{0xaa}, 400)) {
			t.Errorf("Put of %v writes into what was handed in", short(v))
		}
		for k := range room {
			room[k] = 0x55
		}
		if !bytes.Equal(got, want) {
			t.Errorf("Put of %v answers memory that was handed in", short(v))
		}
		for k := range got {
			got[k] = 0x77
		}
		if !bytes.Equal(room, bytes.Repeat([]byte{0x55}, 400)) {
			t.Errorf("Put of %v answers memory that was handed in", short(v))
		}
	}
}

func TestPutOfWhatMayNotBeLeavesWhatWasHandedIn(t *testing.T) {
	for _, v := range wrongs() {
		room := bytes.Repeat([]byte{0xaa}, 400)
		value.Put(room[:5], v)
		if !bytes.Equal(room, bytes.Repeat([]byte{0xaa}, 400)) {
			t.Errorf("Put of %v writes into what was handed in", short(v))
		}
	}
}

func TestTwoPutsBehindOneRowShareNothing(t *testing.T) {
	for _, v := range values() {
		front := put(t, nil, text("front"))
		a, b := put(t, front, v), put(t, front, whole(77))
		for k := range b {
			b[k] = 0xee
		}
		if !bytes.Equal(a, joined(plainPut(text("front")), plainPut(v))) || !bytes.Equal(front, plainPut(text("front"))) {
			t.Errorf("what is put later behind the same row changes %v to %x", short(v), a)
		}
	}
}

func TestPutBehindNilIsBehindNothing(t *testing.T) {
	for _, v := range values() {
		if !bytes.Equal(put(t, nil, v), put(t, []byte{}, v)) {
			t.Errorf("%v: behind nil %x, behind nothing %x", short(v), put(t, nil, v), put(t, []byte{}, v))
		}
	}
}

func TestWhatIsGotFromStays(t *testing.T) {
	for _, v := range values() {
		b := plainPut(v)
		was := bytes.Clone(b)
		got, _, e := value.Get(b, 0)
		if !bytes.Equal(b, was) {
			t.Errorf("getting changed %x to %x", was, b)
		}
		for i := range b {
			b[i] = 'z'
		}
		if !identical(got, plainValue(v)) || e != api.OK {
			t.Errorf("%v became %v, %v, as the bytes were written over", short(v), short(got), e)
		}
	}
}

func TestTheSameIsAnsweredAgain(t *testing.T) {
	all := append(values(), wrongs()...)
	for i, a := range all {
		b := all[(i*7+3)%len(all)]
		c, ok := value.Compare(a, b)
		if d, is := value.Compare(a, b); c != d || ok != is {
			t.Errorf("Compare(%v, %v) = %d, %v, then %d, %v", short(a), short(b), c, ok, d, is)
		}
		row, e := value.Put([]byte("x"), a)
		if again, f := value.Put([]byte("x"), a); !bytes.Equal(row, again) || e != f {
			t.Errorf("Put of %v = %x, %v, then %x, %v", short(a), row, e, again, f)
		}
	}
}

// R1: any bytes, at any place, are answered as the chapter says.
func FuzzAnyBytes(f *testing.F) {
	for _, v := range values() {
		f.Add(plainPut(v), 0)
	}
	f.Add([]byte("\x04"), 0)
	f.Add([]byte("\x03\x80\x02"), 0)
	f.Add([]byte{}, -1)
	f.Fuzz(func(t *testing.T, b []byte, at int) {
		if at < 0 || at >= len(b) {
			wantGet(t, b, at, api.Value{}, 0, api.ErrShort)
			return
		}
		v, size, e := plainGet(b[at:])
		if e == api.OK {
			size += at
		}
		wantGet(t, b, at, v, size, e)
		asItStood(t, b, at)
	})
}

// R1: any two values at all are answered as the chapter says.
func FuzzAnyValues(f *testing.F) {
	for i, v := range append(values(), wrongs()...) {
		f.Add(v.Kind, v.Int, math.Float64bits(v.Real), v.Text, uint8(i%4), int64(i), math.Float64bits(float64(i)), "text")
	}
	f.Fuzz(func(t *testing.T, kind uint8, n int64, bits uint64, s string, other uint8, m int64, row uint64, r string) {
		for _, a := range []api.Value{{Kind: kind, Int: n, Real: math.Float64frombits(bits), Text: s}, {Kind: kind}, whole(n), ofBits(bits), text(s)} {
			for _, b := range []api.Value{a, {Kind: other, Int: m, Real: math.Float64frombits(row), Text: r}, whole(m), ofBits(row), text(r)} {
				if value.May(a) != plainMay(a) || value.Same(a, b) != (plainHeld(a) == plainHeld(b)) {
					t.Errorf("%v, %v: May %v, Same %v", short(a), short(b), value.May(a), value.Same(a, b))
				}
				got, ok := value.Compare(a, b)
				if want, is := plainCompare(a, b); got != want || ok != is {
					t.Errorf("Compare(%v, %v) = %d, %v, want %d, %v", short(a), short(b), got, ok, want, is)
				}
			}
			want, e := []byte(nil), api.ErrArg
			if plainMay(a) {
				want, e = joined([]byte(r), plainPut(a)), api.OK
			}
			if got, f := value.Put([]byte(r), a); !bytes.Equal(got, want) || f != e {
				t.Errorf("Put(%q, %v) = %x, %v, want %x, %v", r, short(a), got, f, want, e)
			}
		}
	})
}
