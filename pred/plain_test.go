package pred_test

import (
	"bytes"
	"encoding/binary"
	"fmt"
	"math"
	"math/big"
	"slices"
	"strings"

	"equerry/api"
)

const (
	theNaN   uint64 = 0x7ff8000000000000
	infinity uint64 = 0x7ff0000000000000
	sign     uint64 = 1 << 63
	most            = 4 // tests
)

func whole(n int64) api.Value { return api.Value{Kind: api.Whole, Int: n} }

func number(x float64) api.Value { return api.Value{Kind: api.Real, Real: x} }

func ofBits(bits uint64) api.Value { return number(math.Float64frombits(bits)) }

func text(s string) api.Value { return api.Value{Kind: api.Text, Text: s} }

func of(topic uint8, fields ...api.Value) api.Event { return api.Event{Topic: topic, Fields: fields} }

func test(field, op uint8, v api.Value) api.Test { return api.Test{Field: field, Op: op, Value: v} }

func asked(topic uint8, tests ...api.Test) api.Pred { return api.Pred{Topic: topic, Tests: tests} }

func ofAny(tests ...api.Test) api.Pred { return api.Pred{Any: true, Tests: tests} }

// minus is -0, which Go's constants have no writing of.
func minus() float64 { return math.Copysign(0, -1) }

// long is a text of n bytes, of any kind of byte.
func long(n int) string { return strings.Repeat("equerry\x00\xff", n/9+1)[:n] }

// noise is n numbers that look like chance, and are the same each time.
func noise(seed uint64, n int) []uint64 {
	all := make([]uint64, n)
	for i := range all {
		seed = seed*6364136223846793005 + 1442695040888963407
		all[i] = seed ^ seed>>29
	}
	return all
}

// compares are the Ops that compare.
func compares() []uint8 { return []uint8{api.Eq, api.Ne, api.Lt, api.Le, api.Gt, api.Ge} }

// noOps are numbers that are no Op's.
func noOps() []uint8 { return []uint8{0, 9, 10, 15, 16, 17, 127, 128, 129, 135, 136, 254, 255} }

// otherNaNs are bits of NaNs that aren't the NaN's.
func otherNaNs() []uint64 {
	return []uint64{infinity + 1, theNaN - 1, theNaN + 1, infinity | sign + 1, theNaN | sign, math.MaxUint64}
}

// values are values that may be, of all kinds, at the edges of what they hold, and of what compares them.
func values() []api.Value {
	all := []api.Value{{}}
	for _, n := range []int64{0, 1, -1, 2, 3, -2, -3, 7, 63, -64, 64, -65, 1 << 53, 1<<53 + 1, -1<<53 - 1, math.MaxInt64, math.MinInt64} {
		all = append(all, whole(n))
	}
	for _, x := range []float64{0, minus(), 0.25, -0.1, 1, 2, 2.5, -2.5, 3, 7, 1 << 53, 1<<53 + 2, 1 << 63, -1 << 63, math.SmallestNonzeroFloat64, -math.SmallestNonzeroFloat64, math.MaxFloat64, math.Inf(1), math.Inf(-1)} {
		all = append(all, number(x))
	}
	for _, b := range append(otherNaNs(), theNaN) {
		all = append(all, ofBits(b))
	}
	for _, s := range []string{"", "\x00", "a", "A", "ab", "abc", "abd", "b", "ba", "a\x00", "7", "\x80", "\xff", "\xff\xff", "gr\u00fc\u00df", "gr\xc3", long(127), long(128), long(254), long(255), long(254) + "\x00"} {
		all = append(all, text(s))
	}
	return all
}

// wrongs are values that may not be.
func wrongs() []api.Value {
	return []api.Value{
		{Int: 1}, {Real: 1}, {Real: minus()}, {Real: math.NaN()}, {Text: "a"},
		{Kind: api.Whole, Int: 1, Real: minus()}, {Kind: api.Whole, Int: 1, Real: 1}, {Kind: api.Whole, Text: "a"},
		{Kind: api.Real, Int: 1, Real: 1}, {Kind: api.Real, Real: 1, Text: "a"},
		{Kind: api.Text, Int: 1, Text: "a"}, {Kind: api.Text, Real: minus(), Text: "a"}, text(long(256)), text(long(70000)),
		{Kind: 4}, {Kind: 5, Int: 1}, {Kind: 128}, {Kind: 129, Int: 1}, {Kind: 131, Text: "a"}, {Kind: 255},
	}
}

// mayTests are tests that may be: of each Op, and each value that may stand with it.
func mayTests() []api.Test {
	var all []api.Test
	for i, v := range values() {
		field := uint8(i * 37)
		switch v.Kind {
		case api.None:
			all = append(all, test(0, api.Has, v), test(7, api.Has, v), test(8, api.Has, v), test(255, api.Has, v))
			continue
		case api.Text:
			all = append(all, test(field, api.Begins, v))
		}
		for _, op := range compares() {
			all = append(all, test(field, op, v), test(uint8(i%9), op, v))
		}
	}
	return all
}

// wrongTests are tests that may not be.
func wrongTests() []api.Test {
	var all []api.Test
	for _, v := range values() {
		for _, op := range noOps() {
			all = append(all, test(0, op, v))
		}
		switch v.Kind {
		case api.None:
			for _, op := range append(compares(), api.Begins) {
				all = append(all, test(1, op, v), test(255, op, v))
			}
		case api.Text:
			all = append(all, test(2, api.Has, v))
		default:
			all = append(all, test(3, api.Has, v), test(3, api.Begins, v))
		}
	}
	for _, v := range wrongs() {
		for op := range uint8(10) {
			all = append(all, test(op, op, v))
		}
	}
	return all
}

// someTests are n tests that may be, others at each start.
func someTests(start, n int) []api.Test {
	all, row := mayTests(), make([]api.Test, n)
	for i := range row {
		row[i] = all[(start+i*61)%len(all)]
	}
	return row
}

// preds are questions that may be: of each test, of none and of all numbers of tests.
func preds() []api.Pred {
	all := []api.Pred{{}, {Any: true}, asked(1), asked(128, []api.Test{}...), asked(255), {Tests: []api.Test{}}}
	for i, x := range mayTests() {
		all = append(all, asked(uint8(i*5), x), ofAny(x))
	}
	for n := range most + 1 {
		for start := range 20 {
			all = append(all, asked(uint8(start*n*3), someTests(start*7, n)...), ofAny(someTests(start*11, n)...))
		}
	}
	return append(all, asked(7, slices.Repeat([]api.Test{test(255, api.Begins, text(long(255)))}, most)...))
}

// wrongPreds are questions that may not be.
func wrongPreds() []api.Pred {
	var all []api.Pred
	for _, n := range []int{5, 6, 7, 8, 15, 16, 17, 20, 32, 255, 256, 257, 260, 1 << 16} {
		all = append(all, asked(1, someTests(n, n)...), ofAny(someTests(n, n)...))
	}
	for topic := 1; topic < 256; topic++ {
		all = append(all, api.Pred{Any: true, Topic: uint8(topic)}, api.Pred{Any: true, Topic: uint8(topic), Tests: someTests(topic, topic%(most+1))})
	}
	for i, w := range wrongTests() {
		for n := 1; n <= most; n++ {
			tests := someTests(i, n)
			tests[i%n] = w
			all = append(all, asked(uint8(i), tests...), ofAny(tests...))
		}
	}
	return append(all, asked(1, append(someTests(0, most), wrongTests()[0])...))
}

// wrongEvents are events that may not be.
func wrongEvents() []api.Event {
	all := []api.Event{of(1, make([]api.Value, 9)...), of(1, make([]api.Value, 256)...)}
	for i, w := range wrongs() {
		fields := slices.Repeat([]api.Value{whole(7)}, 8)
		fields[i%8] = w
		all = append(all, of(1, w), of(1, fields...))
	}
	return all
}

// shortValue is a value as a message tells it.
func shortValue(v api.Value) string {
	return fmt.Sprintf("{%d %d %v %.12q of %d}", v.Kind, v.Int, v.Real, v.Text, len(v.Text))
}

// short is a question as a message tells it.
func short(p api.Pred) string {
	s := fmt.Sprintf("any %v, topic %d, of %d:", p.Any, p.Topic, len(p.Tests))
	for _, x := range p.Tests[:min(len(p.Tests), most)] {
		s += fmt.Sprintf(" (%d %d %s)", x.Field, x.Op, shortValue(x.Value))
	}
	return s
}

// shortEvent is an event as a message tells it.
func shortEvent(e api.Event) string {
	s := fmt.Sprintf("topic %d of %d:", e.Topic, len(e.Fields))
	for _, f := range e.Fields[:min(len(e.Fields), 8)] {
		s += " " + shortValue(f)
	}
	return s
}

// identicalValue tells whether two are the same to the last bit.
func identicalValue(a, b api.Value) bool {
	return a.Kind == b.Kind && a.Int == b.Int && math.Float64bits(a.Real) == math.Float64bits(b.Real) && a.Text == b.Text
}

// identicalTest tells whether two are the same to the last bit.
func identicalTest(a, b api.Test) bool {
	return a.Field == b.Field && a.Op == b.Op && identicalValue(a.Value, b.Value)
}

// identical tells whether two are the same to the last bit.
func identical(a, b api.Pred) bool {
	return a.Any == b.Any && a.Topic == b.Topic && slices.EqualFunc(a.Tests, b.Tests, identicalTest)
}

// identicalEvent tells whether two are the same to the last bit.
func identicalEvent(a, b api.Event) bool {
	return a.Topic == b.Topic && slices.EqualFunc(a.Fields, b.Fields, identicalValue)
}

// joined is its parts, one behind the other, in memory of its own.
func joined(parts ...[]byte) []byte { return bytes.Join(parts, nil) }

// copied is a question in memory that no other one has.
func copied(p api.Pred) api.Pred {
	return api.Pred{Any: p.Any, Topic: p.Topic, Tests: append([]api.Test(nil), p.Tests...)}
}

// copiedEvent is an event in memory that no other one has.
func copiedEvent(e api.Event) api.Event {
	return api.Event{Topic: e.Topic, Fields: append([]api.Value(nil), e.Fields...)}
}

// plainMayValue is layer 4's: all that a kind doesn't name is taken away, and that must change nothing.
func plainMayValue(v api.Value) bool {
	switch v.Kind {
	case api.None:
		return identicalValue(v, api.Value{})
	case api.Whole:
		return identicalValue(v, whole(v.Int))
	case api.Real:
		return identicalValue(v, number(v.Real))
	case api.Text:
		return identicalValue(v, text(v.Text)) && len(v.Text) < 256
	}
	return false
}

// plainMayTest is the chapter's.
func plainMayTest(t api.Test) bool {
	if !plainMayValue(t.Value) {
		return false
	}
	switch t.Op {
	case 7:
		return t.Value.Kind == 0
	case 8:
		return t.Value.Kind == 3
	case 1, 2, 3, 4, 5, 6:
		return t.Value.Kind != 0
	}
	return false
}

// plainMay is the chapter's.
func plainMay(p api.Pred) bool {
	for _, x := range p.Tests {
		if !plainMayTest(x) {
			return false
		}
	}
	return len(p.Tests) < 5 && (!p.Any || p.Topic == 0)
}

// plainMayEvent is layer 5's.
func plainMayEvent(e api.Event) bool {
	return len(e.Fields) < 9 && !slices.ContainsFunc(e.Fields, func(f api.Value) bool { return !plainMayValue(f) })
}

// plainNumber is the exact number that a value is, if it is one.
func plainNumber(v api.Value) (*big.Float, bool) {
	switch {
	case v.Kind == api.Whole:
		return new(big.Float).SetInt64(v.Int), true
	case v.Kind == api.Real && !math.IsNaN(v.Real):
		return new(big.Float).SetFloat64(v.Real), true
	}
	return nil, false
}

// plainCompare is layer 4's of values that may be, by exact numbers and by bytes.
func plainCompare(a, b api.Value) (int, bool) {
	if a.Kind == api.Text && b.Kind == api.Text {
		return bytes.Compare([]byte(a.Text), []byte(b.Text)), true
	}
	x, isX := plainNumber(a)
	y, isY := plainNumber(b)
	if !isX || !isY {
		return 0, false
	}
	return x.Cmp(y), true
}

// plainHoldsTest is the chapter's, of a test and an event that may be.
func plainHoldsTest(t api.Test, fields []api.Value) bool {
	if len(fields) <= int(t.Field) {
		return false
	}
	f, v := fields[t.Field], t.Value
	c, compared := plainCompare(f, v)
	switch t.Op {
	case 1:
		return compared && c == 0
	case 2:
		return compared && c != 0
	case 3:
		return compared && c == -1
	case 4:
		return compared && c != 1
	case 5:
		return compared && c == 1
	case 6:
		return compared && c != -1
	case 7:
		return f.Kind != 0
	}
	return f.Kind == 3 && len(f.Text) >= len(v.Text) && f.Text[:len(v.Text)] == v.Text
}

// plainHolds is the chapter's.
func plainHolds(p api.Pred, e api.Event) bool {
	if !plainMay(p) || !plainMayEvent(e) {
		return false
	}
	for _, x := range p.Tests {
		if !plainHoldsTest(x, e.Fields) {
			return false
		}
	}
	return p.Any || p.Topic == e.Topic
}

// held is a test's field and Op, its value's kind, and what that holds; whatever else stands in the value doesn't come in.
type held struct {
	field, op, kind uint8
	n               int64
	bits            uint64
	s               string
}

func plainHeld(t api.Test) held {
	v := t.Value
	h := held{field: t.Field, op: t.Op, kind: v.Kind}
	switch {
	case v.Kind == api.Whole:
		h.n = v.Int
	case v.Kind == api.Real && math.IsNaN(v.Real):
		h.bits = theNaN
	case v.Kind == api.Real:
		h.bits = math.Float64bits(v.Real)
	case v.Kind == api.Text:
		h.s = v.Text
	}
	return h
}

// plainSame is the chapter's.
func plainSame(a, b api.Pred) bool {
	return a.Any == b.Any && a.Topic == b.Topic && slices.EqualFunc(a.Tests, b.Tests, func(x, y api.Test) bool { return plainHeld(x) == plainHeld(y) })
}

// highestFirst is the eight bytes of some bits.
func highestFirst(bits uint64) []byte { return binary.BigEndian.AppendUint64(nil, bits) }

// plainPutValue is layer 4's writing of a value that may be.
func plainPutValue(v api.Value) []byte {
	h := plainHeld(test(0, 0, v))
	switch v.Kind {
	case api.Whole:
		return binary.AppendVarint([]byte{1}, h.n)
	case api.Real:
		return joined([]byte{2}, highestFirst(h.bits))
	case api.Text:
		return append(binary.AppendUvarint([]byte{3}, uint64(len(h.s))), h.s...)
	}
	return []byte{0}
}

// plainPut is the chapter's writing of a question that may be.
func plainPut(p api.Pred) []byte {
	row := []byte{byte(16*len(p.Tests) + 1)}
	if !p.Any {
		row = []byte{byte(16 * len(p.Tests)), p.Topic}
	}
	for _, x := range p.Tests {
		row = joined(row, []byte{x.Field, x.Op}, plainPutValue(x.Value))
	}
	return row
}

// plainPred is a question as it comes back: of all NaNs the NaN.
func plainPred(p api.Pred) api.Pred {
	p = copied(p)
	for i, x := range p.Tests {
		if x.Value.Kind == api.Real && math.IsNaN(x.Value.Real) {
			p.Tests[i].Value.Real = math.Float64frombits(theNaN)
		}
	}
	return p
}

// plainGetNumber is layer 3's number at the front of a row, and how many bytes it has.
func plainGetNumber(row []byte) (uint64, int, api.Errno) {
	last := slices.IndexFunc(row, func(c byte) bool { return c < 128 })
	switch {
	case len(row) >= 10 && (last < 0 || last >= 9) && row[9] > 1:
		return 0, 0, api.ErrLong
	case last < 0:
		return 0, 0, api.ErrShort
	case last > 0 && row[last] == 0:
		return 0, 0, api.ErrForm
	}
	n, size := binary.Uvarint(row)
	return n, size, api.OK
}

// plainGetCounted is layer 4's whole number or text, behind its kind.
func plainGetCounted(kind byte, row []byte) (api.Value, int, api.Errno) {
	n, size, errno := plainGetNumber(row)
	switch {
	case errno != api.OK:
		return api.Value{}, 0, errno
	case kind == api.Whole:
		signed, _ := binary.Varint(row)
		return whole(signed), size, api.OK
	case n > 255:
		return api.Value{}, 0, api.ErrLong
	case int(n) > len(row)-size:
		return api.Value{}, 0, api.ErrShort
	}
	return text(string(row[size : size+int(n)])), size + int(n), api.OK
}

// plainGetValue is layer 4's value at the front of a row, and how many bytes it has.
func plainGetValue(row []byte) (api.Value, int, api.Errno) {
	if len(row) == 0 {
		return api.Value{}, 0, api.ErrShort
	}
	kind, rest := row[0], row[1:]
	switch kind {
	case api.None:
		return api.Value{}, 1, api.OK
	case api.Whole, api.Text:
		v, size, errno := plainGetCounted(kind, rest)
		return v, size + 1, errno
	case api.Real:
		if len(rest) < 8 {
			return api.Value{}, 0, api.ErrShort
		}
		bits := binary.BigEndian.Uint64(rest)
		if math.IsNaN(math.Float64frombits(bits)) && bits != theNaN {
			return api.Value{}, 0, api.ErrForm
		}
		return ofBits(bits), 9, api.OK
	}
	return api.Value{}, 0, api.ErrKind
}

// plainGet is the chapter's question at the front of a row, and how many bytes it has.
func plainGet(row []byte) (api.Pred, int, api.Errno) {
	switch {
	case len(row) == 0:
		return api.Pred{}, 0, api.ErrShort
	case row[0]&2 > 0 || row[0]&4 > 0 || row[0]&8 > 0:
		return api.Pred{}, 0, api.ErrForm
	case row[0]>>4 > 4:
		return api.Pred{}, 0, api.ErrMany
	case row[0]&1 == 0 && len(row) == 1:
		return api.Pred{}, 0, api.ErrShort
	}
	p, size := ofAny(), 1
	if row[0]&1 == 0 {
		p, size = asked(row[1]), 2
	}
	for len(p.Tests) < int(row[0]>>4) {
		if len(row) < size+2 {
			return api.Pred{}, 0, api.ErrShort
		}
		v, more, errno := plainGetValue(row[size+2:])
		if errno != api.OK {
			return api.Pred{}, 0, errno
		}
		p.Tests = append(p.Tests, test(row[size], row[size+1], v))
		size += 2 + more
	}
	if !plainMay(p) {
		return api.Pred{}, 0, api.ErrArg
	}
	return p, size, api.OK
}
