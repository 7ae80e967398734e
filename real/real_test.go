package real_test

import (
	"math"
	"math/big"
	"slices"
	"testing"

	"equerry/api"
	"equerry/real"
)

const (
	theNaN   uint64 = 0x7ff8000000000000
	infinity uint64 = 0x7ff0000000000000
	sign     uint64 = 1 << 63
)

// positives are bits of numbers from 0 to infinity, edges first, in order: of each edge its neighbours too.
func positives() []uint64 {
	edges := []uint64{0, 1, 1 << 51, 1<<52 - 1, 1 << 52, 1<<52 + 1, infinity - 1, infinity}
	for _, x := range []float64{0x1p-1074, 0x1p-1023, 0x1p-1022, 0.1, 0.5, 1, 1.5, 2, 3, 1 << 31, 1 << 32, 1 << 52, 1 << 53, 1<<53 + 2, 1 << 54, 1 << 62, 1 << 63, 1 << 64, 1e100, math.MaxFloat64} {
		edges = append(edges, math.Float64bits(x))
	}
	var all []uint64
	for _, e := range edges {
		all = append(all, e)
		if e > 0 {
			all = append(all, e-1)
		}
		if e < infinity {
			all = append(all, e+1)
		}
	}
	seed := uint64(7)
	for range 200 {
		seed = seed*6364136223846793005 + 1442695040888963407
		all = append(all, seed>>1%infinity)
	}
	slices.Sort(all)
	return slices.Compact(all)
}

// row is bits of the row, from minus infinity to the NaN.
func row() []uint64 {
	up := positives()
	var all []uint64
	for i := len(up) - 1; i >= 0; i-- {
		all = append(all, up[i]|sign)
	}
	return append(append(all, up...), theNaN)
}

// otherNaNs are bits of NaNs that aren't the NaN's, quiet and signalling, of both signs.
func otherNaNs() []uint64 {
	return []uint64{infinity + 1, theNaN - 1, theNaN + 1, 0x7ff4000000000000, 0x7fffffffffffffff, infinity | sign + 1, theNaN | sign, theNaN | sign + 1, 0xfff4000000000000, 0xffffffffffffffff}
}

func nans() []float64 {
	all := []float64{math.NaN(), math.Float64frombits(theNaN), math.Inf(1) - math.Inf(1)}
	for _, b := range otherNaNs() {
		all = append(all, math.Float64frombits(b))
	}
	return all
}

// numbers are those of row, but the NaN.
func numbers() []float64 {
	var all []float64
	for _, b := range row() {
		if b != theNaN {
			all = append(all, math.Float64frombits(b))
		}
	}
	return all
}

// wholes are whole numbers at the edges of 64 bits, of 53 bits and of 0.
func wholes() []int64 {
	var all []int64
	for _, n := range []int64{0, 1, 2, 3, 5, 1 << 31, 1 << 32, 1 << 52, 1 << 53, 1<<53 + 2, 1 << 54, 1 << 62, 1<<63 - 1 - 512, 1<<63 - 1 - 1024} {
		all = append(all, n-1, n, n+1, -n-1, -n, -n+1)
	}
	return append(all, math.MaxInt64, math.MaxInt64-1, math.MinInt64, math.MinInt64+1, math.MinInt64+1024)
}

func sameBits(x float64, bits uint64) bool { return math.Float64bits(x) == bits }

// P2.1: Class

// plainClass is the class that a number's bits tell.
func plainClass(bits uint64) int {
	power, rest := bits>>52&0x7ff, bits&(1<<52-1)
	switch {
	case power == 0 && rest == 0:
		return api.Zero
	case power == 0:
		return api.Tiny
	case power < 0x7ff:
		return api.Normal
	case rest == 0:
		return api.Infinite
	}
	return api.NotOne
}

func TestClassOfAll(t *testing.T) {
	for _, b := range append(row(), otherNaNs()...) {
		if got, want := real.Class(math.Float64frombits(b)), plainClass(b); got != want {
			t.Errorf("Class of bits %#x = %d, want %d", b, got, want)
		}
	}
}

func TestClassAtTheEdges(t *testing.T) {
	for bits, want := range map[uint64]int{
		0:                   api.Zero,
		sign:                api.Zero,
		1:                   api.Tiny,
		sign | 1:            api.Tiny,
		0x000fffffffffffff:  api.Tiny,
		0x800fffffffffffff:  api.Tiny,
		0x0010000000000000:  api.Normal,
		0x8010000000000000:  api.Normal,
		infinity - 1:        api.Normal,
		sign | infinity - 1: api.Normal,
		infinity:            api.Infinite,
		sign | infinity:     api.Infinite,
		infinity + 1:        api.NotOne,
		theNaN:              api.NotOne,
		sign | theNaN:       api.NotOne,
	} {
		if got := real.Class(math.Float64frombits(bits)); got != want {
			t.Errorf("Class of bits %#x = %d, want %d", bits, got, want)
		}
	}
}

// P2.1: Bits, From, Same

func TestBitsAndFromOfAll(t *testing.T) {
	for _, b := range row() {
		if got := real.Bits(math.Float64frombits(b)); got != b {
			t.Errorf("Bits of bits %#x = %#x", b, got)
		}
		if x, ok := real.From(b); !ok || !sameBits(x, b) {
			t.Errorf("From(%#x) = %#x, %v", b, math.Float64bits(x), ok)
		}
	}
}

func TestBitsOfAllNaNsAreTheNaNs(t *testing.T) {
	for _, x := range nans() {
		if got := real.Bits(x); got != theNaN {
			t.Errorf("Bits of the NaN of bits %#x = %#x", math.Float64bits(x), got)
		}
	}
}

func TestFromOfOtherNaNs(t *testing.T) {
	for _, b := range otherNaNs() {
		if x, ok := real.From(b); ok || !sameBits(x, 0) {
			t.Errorf("From(%#x) = %v, %v, want 0, false", b, x, ok)
		}
	}
}

func TestSameOfAll(t *testing.T) {
	all := row()
	for i, a := range all {
		for k, b := range all {
			if got := real.Same(math.Float64frombits(a), math.Float64frombits(b)); got != (i == k) {
				t.Fatalf("Same of bits %#x, %#x = %v", a, b, got)
			}
		}
	}
}

func TestAllNaNsAreOne(t *testing.T) {
	for _, a := range nans() {
		for _, b := range nans() {
			if !real.Same(a, b) || real.Order(a, b) != 0 || real.Key(a) != real.Key(b) {
				t.Errorf("NaNs of bits %#x, %#x aren't one", math.Float64bits(a), math.Float64bits(b))
			}
		}
		for _, x := range numbers() {
			if real.Same(a, x) || real.Same(x, a) || real.Order(a, x) != 1 || real.Order(x, a) != -1 {
				t.Fatalf("the NaN of bits %#x doesn't stand behind %v", math.Float64bits(a), x)
			}
		}
	}
}

// P2.1: Compare, Against, Whole

// bigCompare compares two numbers, no NaNs, without Go's own comparison.
func bigCompare(a, b float64) int {
	return new(big.Float).SetFloat64(a).Cmp(new(big.Float).SetFloat64(b))
}

func TestCompareOfAll(t *testing.T) {
	for _, a := range numbers() {
		for _, b := range numbers() {
			if got, ok := real.Compare(a, b); !ok || got != bigCompare(a, b) {
				t.Fatalf("Compare(%v, %v) = %d, %v, want %d", a, b, got, ok, bigCompare(a, b))
			}
		}
	}
}

func TestCompareOfZeros(t *testing.T) {
	minus := math.Copysign(0, -1)
	for _, a := range []float64{0, minus} {
		for _, b := range []float64{0, minus} {
			if got, ok := real.Compare(a, b); got != 0 || !ok {
				t.Errorf("Compare(%v, %v) = %d, %v", a, b, got, ok)
			}
		}
	}
	if real.Order(minus, 0) != -1 || real.Order(0, minus) != 1 {
		t.Error("-0 doesn't stand ahead of 0")
	}
}

func TestNaNsAreNotCompared(t *testing.T) {
	for _, nan := range nans() {
		for _, x := range append(numbers(), nans()...) {
			if got, ok := real.Compare(nan, x); got != 0 || ok {
				t.Fatalf("Compare(NaN, %v) = %d, %v", x, got, ok)
			}
			if got, ok := real.Compare(x, nan); got != 0 || ok {
				t.Fatalf("Compare(%v, NaN) = %d, %v", x, got, ok)
			}
		}
		for _, n := range wholes() {
			if got, ok := real.Against(n, nan); got != 0 || ok {
				t.Fatalf("Against(%d, NaN) = %d, %v", n, got, ok)
			}
		}
		if n, ok := real.Whole(nan); n != 0 || ok {
			t.Errorf("Whole(NaN) = %d, %v", n, ok)
		}
	}
}

// nearWholes are the numbers around each of wholes, as near as there are any, and with halves.
func nearWholes() []float64 {
	var all []float64
	for _, n := range wholes() {
		x := float64(n)
		all = append(all, x, math.Nextafter(x, math.Inf(1)), math.Nextafter(x, math.Inf(-1)), x+0.5, x-0.5)
	}
	return all
}

func TestAgainstOfAll(t *testing.T) {
	for _, x := range append(numbers(), nearWholes()...) {
		exact := new(big.Float).SetFloat64(x)
		for _, n := range wholes() {
			want := new(big.Float).SetInt64(n).Cmp(exact)
			if got, ok := real.Against(n, x); !ok || got != want {
				t.Fatalf("Against(%d, %v) = %d, %v, want %d", n, x, got, ok, want)
			}
		}
	}
}

func TestAgainstAtTheEdges(t *testing.T) {
	for _, c := range []struct {
		n    int64
		x    float64
		want int
	}{
		{1<<53 + 1, 1 << 53, 1},
		{1<<53 + 1, 1<<53 + 2, -1},
		{-1<<53 - 1, -1 << 53, -1},
		{1<<62 + 1, 1 << 62, 1},
		{math.MaxInt64, 1 << 63, -1},
		{math.MaxInt64, 1<<63 - 1024, 1},
		{1<<63 - 1024, 1<<63 - 1024, 0},
		{math.MinInt64, -1 << 63, 0},
		{math.MinInt64 + 1, -1 << 63, 1},
		{math.MinInt64, -1<<63 - 2048, 1},
		{math.MaxInt64, math.Inf(1), -1},
		{math.MinInt64, math.Inf(-1), 1},
		{0, 0x1p-1074, -1},
		{0, -0x1p-1074, 1},
		{0, 0, 0},
		{0, math.Copysign(0, -1), 0},
		{-1, -0.5, -1},
		{0, -0.5, 1},
		{math.MaxInt64, math.MaxFloat64, -1},
		{math.MinInt64, -math.MaxFloat64, 1},
	} {
		if got, ok := real.Against(c.n, c.x); !ok || got != c.want {
			t.Errorf("Against(%d, %v) = %d, %v, want %d", c.n, c.x, got, ok, c.want)
		}
	}
}

// plainWhole is the chapter's Whole by exact numbers; x is no NaN.
func plainWhole(x float64) (int64, bool) {
	n, exactly := new(big.Float).SetFloat64(x).Int64()
	if exactly != big.Exact {
		return 0, false
	}
	return n, true
}

func TestWholeOfAll(t *testing.T) {
	for _, x := range append(numbers(), nearWholes()...) {
		n, ok := real.Whole(x)
		if want, is := plainWhole(x); n != want || ok != is {
			t.Errorf("Whole(%v) = %d, %v, want %d, %v", x, n, ok, want, is)
		}
	}
}

func TestWholeAtTheEdges(t *testing.T) {
	for _, c := range []struct {
		x    float64
		want int64
		ok   bool
	}{
		{0, 0, true},
		{math.Copysign(0, -1), 0, true},
		{7, 7, true},
		{-7, -7, true},
		{0.5, 0, false},
		{-1.5, 0, false},
		{0x1p-1074, 0, false},
		{1<<51 + 0.5, 0, false},
		{1<<53 + 2, 1<<53 + 2, true},
		{1<<63 - 1024, 1<<63 - 1024, true},
		{1 << 63, 0, false},
		{-1 << 63, math.MinInt64, true},
		{-1<<63 - 2048, 0, false},
		{1 << 64, 0, false},
		{math.MaxFloat64, 0, false},
		{-math.MaxFloat64, 0, false},
		{math.Inf(1), 0, false},
		{math.Inf(-1), 0, false},
	} {
		if n, ok := real.Whole(c.x); n != c.want || ok != c.ok {
			t.Errorf("Whole(%v) = %d, %v, want %d, %v", c.x, n, ok, c.want, c.ok)
		}
	}
}

func TestWholeAndAgainstAgree(t *testing.T) {
	for _, x := range append(numbers(), nearWholes()...) {
		if n, ok := real.Whole(x); ok {
			if got, compared := real.Against(n, x); got != 0 || !compared {
				t.Errorf("Against(%d, %v) = %d, %v", n, x, got, compared)
			}
		}
	}
}

// P2.1: Key, Up

func TestKeyAtTheEdges(t *testing.T) {
	for bits, want := range map[uint64]uint64{
		sign | infinity:     0x000fffffffffffff,
		sign | infinity - 1: 0x0010000000000000,
		sign | 1:            1<<63 - 2,
		sign:                1<<63 - 1,
		0:                   1 << 63,
		1:                   1<<63 + 1,
		infinity - 1:        0xffefffffffffffff,
		infinity:            0xfff0000000000000,
		theNaN:              0xfff8000000000000,
	} {
		if got := real.Key(math.Float64frombits(bits)); got != want {
			t.Errorf("Key of bits %#x = %#x, want %#x", bits, got, want)
		}
	}
	for _, nan := range nans() {
		if got := real.Key(nan); got != 0xfff8000000000000 {
			t.Errorf("Key of the NaN of bits %#x = %#x", math.Float64bits(nan), got)
		}
	}
}

// From 0 on, bits count how many numbers are passed; so a key is as far from 0's, and below 0 as far from -0's.
func TestKeyCountsFromZero(t *testing.T) {
	for _, b := range positives() {
		if got := real.Key(math.Float64frombits(b)); got != 1<<63+b {
			t.Errorf("Key of bits %#x = %#x", b, got)
		}
		if got := real.Key(math.Float64frombits(b | sign)); got != 1<<63-1-b {
			t.Errorf("Key of bits %#x = %#x", b|sign, got)
		}
	}
}

func TestUpAtTheEdges(t *testing.T) {
	for bits, want := range map[uint64]uint64{
		sign | infinity:     sign | infinity - 1,
		sign | infinity - 1: sign | infinity - 2,
		sign | 1<<52:        sign | 1<<52 - 1,
		sign | 2:            sign | 1,
		sign | 1:            sign,
		sign:                0,
		0:                   1,
		1:                   2,
		1<<52 - 1:           1 << 52,
		infinity - 1:        infinity,
		infinity:            theNaN,
		theNaN:              theNaN,
	} {
		if got := real.Up(math.Float64frombits(bits)); !sameBits(got, want) {
			t.Errorf("Up of bits %#x has bits %#x, want %#x", bits, math.Float64bits(got), want)
		}
	}
	for _, nan := range nans() {
		if got := real.Up(nan); !sameBits(got, theNaN) {
			t.Errorf("Up of the NaN of bits %#x has bits %#x", math.Float64bits(nan), math.Float64bits(got))
		}
	}
}

func TestUpOfAll(t *testing.T) {
	for _, x := range numbers() {
		if x == 0 || math.IsInf(x, 1) {
			continue // where the row differs from the numbers: told at the edges
		}
		if got, want := real.Up(x), math.Nextafter(x, math.Inf(1)); got != want || math.Signbit(got) != math.Signbit(x) {
			t.Errorf("Up(%v) = %v, want %v", x, got, want)
		}
	}
}

// P2.2

// Whatever two stand at different places of row are told apart, and the right way round: so Order is total, turns round with its arguments, and goes on from one to the next.
func TestOrderIsTheRow(t *testing.T) {
	all := row()
	for i, a := range all {
		for k, b := range all {
			want := 0
			switch {
			case i < k:
				want = -1
			case i > k:
				want = 1
			}
			if got := real.Order(math.Float64frombits(a), math.Float64frombits(b)); got != want {
				t.Fatalf("Order of bits %#x, %#x = %d, want %d", a, b, got, want)
			}
		}
	}
}

func TestKeyTellsOrder(t *testing.T) {
	all := append(numbers(), nans()...)
	for _, a := range all {
		for _, b := range all {
			less, same := real.Key(a) < real.Key(b), real.Key(a) == real.Key(b)
			if order := real.Order(a, b); less != (order == -1) || same != (order == 0) || same != real.Same(a, b) {
				t.Fatalf("Key of %v, %v: %#x, %#x, but Order %d", a, b, real.Key(a), real.Key(b), order)
			}
		}
	}
}

func TestOrderAgreesWithCompare(t *testing.T) {
	for _, a := range numbers() {
		for _, b := range numbers() {
			compared, _ := real.Compare(a, b)
			if compared != 0 && real.Order(a, b) != compared {
				t.Fatalf("Order(%v, %v) = %d, Compare %d", a, b, real.Order(a, b), compared)
			}
		}
	}
}

func TestNothingStandsBetween(t *testing.T) {
	all := append(numbers(), nans()...)
	for _, x := range all {
		up := real.Up(x)
		switch real.Class(up) {
		case api.NotOne:
			if real.Order(x, math.Inf(1)) == -1 {
				t.Errorf("Up(%v) is the NaN", x)
			}
		default:
			if real.Order(x, up) != -1 || real.Key(up) != real.Key(x)+1 {
				t.Errorf("Up(%v) = %v: Keys %#x, %#x", x, up, real.Key(x), real.Key(up))
			}
		}
		for _, y := range all {
			if real.Order(x, y) == -1 && real.Order(y, up) == -1 {
				t.Fatalf("%v stands between %v and its Up %v", y, x, up)
			}
		}
	}
}

// step after step, from below 0 to above it, the row leaves nothing out.
func TestUpWalksOverZero(t *testing.T) {
	x := math.Float64frombits(sign | 1000)
	for key := uint64(1<<63 - 1001); key <= 1<<63+1000; key++ {
		if real.Key(x) != key {
			t.Fatalf("Key(%v) = %#x, want %#x", x, real.Key(x), key)
		}
		x = real.Up(x)
	}
}

func TestUpEndsAtTheNaN(t *testing.T) {
	x := math.Float64frombits(infinity - 3)
	for _, want := range []uint64{infinity - 2, infinity - 1, infinity, theNaN, theNaN} {
		x = real.Up(x)
		if !sameBits(x, want) {
			t.Fatalf("bits %#x, want %#x", math.Float64bits(x), want)
		}
	}
}

// R1, R5: any bits at all are answered, and the same way each time.
func FuzzAnyBits(f *testing.F) {
	for _, b := range append(row(), otherNaNs()...) {
		f.Add(b, b>>3, int64(b))
	}
	f.Fuzz(func(t *testing.T, a, b uint64, n int64) {
		x, y := math.Float64frombits(a), math.Float64frombits(b)
		if real.Class(x) != plainClass(a) {
			t.Errorf("Class of bits %#x = %d", a, real.Class(x))
		}
		if real.Order(x, y) != -real.Order(y, x) || real.Same(x, y) != (real.Order(x, y) == 0) {
			t.Errorf("Order of bits %#x, %#x = %d", a, b, real.Order(x, y))
		}
		if back, ok := real.From(real.Bits(x)); !ok || !real.Same(back, x) {
			t.Errorf("From(Bits) of bits %#x = %v, %v", a, back, ok)
		}
		if x != x {
			return
		}
		want := new(big.Float).SetInt64(n).Cmp(new(big.Float).SetFloat64(x))
		if got, ok := real.Against(n, x); got != want || !ok {
			t.Errorf("Against(%d, %v) = %d, %v, want %d", n, x, got, ok, want)
		}
		whole, ok := real.Whole(x)
		if want, is := plainWhole(x); whole != want || ok != is {
			t.Errorf("Whole(%v) = %d, %v, want %d, %v", x, whole, ok, want, is)
		}
	})
}
