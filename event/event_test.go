package event_test

import (
	"bytes"
	"encoding/binary"
	"fmt"
	"math"
	"slices"
	"strings"
	"testing"

	"equerry/api"
	"equerry/event"
)

const (
	theNaN   uint64 = 0x7ff8000000000000
	infinity uint64 = 0x7ff0000000000000
	sign     uint64 = 1 << 63
	most            = 8 // fields
)

func whole(n int64) api.Value { return api.Value{Kind: api.Whole, Int: n} }

func number(x float64) api.Value { return api.Value{Kind: api.Real, Real: x} }

func ofBits(bits uint64) api.Value { return number(math.Float64frombits(bits)) }

func text(s string) api.Value { return api.Value{Kind: api.Text, Text: s} }

func of(topic uint8, fields ...api.Value) api.Event { return api.Event{Topic: topic, Fields: fields} }

// minus is -0, which Go's constants have no writing of.
func minus() float64 { return math.Copysign(0, -1) }

// long is a text of n bytes, of any kind of byte.
func long(n int) string { return strings.Repeat("equerry\x00\xff", n/9+1)[:n] }

// noise is n numbers that look like chance, and are the same each time.
func noise(seed uint64, n int) []uint64 {
	all := make([]uint64, n)
	for i := range all {
		seed = seed*6364136223846793005 + 1442695040888963407
		all[i] = seed ^ seed>>29
	}
	return all
}

// otherNaNs are bits of NaNs that aren't the NaN's.
func otherNaNs() []uint64 {
	return []uint64{infinity + 1, theNaN - 1, theNaN + 1, infinity | sign + 1, theNaN | sign, math.MaxUint64}
}

// values are fields that may be, of all kinds, at the edges of what they hold.
func values() []api.Value {
	all := []api.Value{{}}
	for _, n := range []int64{0, 1, -1, 2, 63, -64, 64, -65, 300, 1<<53 + 1, math.MaxInt64, math.MinInt64} {
		all = append(all, whole(n))
	}
	for _, x := range []float64{0, minus(), 0.25, -0.1, 1, 1 << 53, math.SmallestNonzeroFloat64, -math.MaxFloat64, math.Inf(1), math.Inf(-1)} {
		all = append(all, number(x))
	}
	for _, b := range append(otherNaNs(), theNaN) {
		all = append(all, ofBits(b))
	}
	for _, s := range []string{"", "\x00", "a", "A", "ab", "\x80", "\xff\xff", "gr\u00fc\u00df", long(127), long(128), long(254), long(255)} {
		all = append(all, text(s))
	}
	return all
}

// wrongs are fields that may not be.
func wrongs() []api.Value {
	return []api.Value{
		{Int: 1}, {Real: 1}, {Real: minus()}, {Real: math.NaN()}, {Text: "a"},
		{Kind: api.Whole, Int: 1, Real: minus()}, {Kind: api.Whole, Int: 1, Real: 1}, {Kind: api.Whole, Text: "a"},
		{Kind: api.Real, Int: 1, Real: 1}, {Kind: api.Real, Real: 1, Text: "a"},
		{Kind: api.Text, Int: 1, Text: "a"}, {Kind: api.Text, Real: minus(), Text: "a"}, text(long(256)), text(long(70000)),
		{Kind: 4}, {Kind: 5, Int: 1}, {Kind: 128}, {Kind: 129, Int: 1}, {Kind: 131, Text: "a"}, {Kind: 255},
	}
}

// fields are n fields that may be, others at each start.
func fields(start, n int) []api.Value {
	all, row := values(), make([]api.Value, n)
	for i := range row {
		row[i] = all[(start+i*7)%len(all)]
	}
	return row
}

// events are events that may be: of each field, of none and of all numbers of fields.
func events() []api.Event {
	all := []api.Event{{}, {Topic: 3}, {Topic: 128, Fields: []api.Value{}}, {Topic: 255}, {Topic: 9, Fields: make([]api.Value, most)}}
	for i, v := range values() {
		all = append(all, of(uint8(i*5), v))
	}
	for n := range most + 1 {
		for start := range 12 {
			all = append(all, of(uint8(start*n), fields(start, n)...))
		}
	}
	for i, c := range noise(5, 100) {
		all = append(all, of(uint8(c), fields(int(c>>8%1000), i%(most+1))...))
	}
	return append(all, of(1, slices.Repeat([]api.Value{text(long(255))}, most)...))
}

// crowded are events of more fields than may be; a byte has no room for the number of some of them.
func crowded() []api.Event {
	var all []api.Event
	for _, n := range []int{9, 10, 15, 16, 17, 127, 128, 255, 256, 257, 260, 264, 265, 512, 1 << 16} {
		all = append(all, of(1, make([]api.Value, n)...), of(2, fields(n, n)...))
	}
	return all
}

// spoilt are events of which one field may not be, at each place of as many fields as there may be.
func spoilt() []api.Event {
	var all []api.Event
	for _, w := range wrongs() {
		for n := 1; n <= most; n++ {
			for at := range n {
				row := fields(at, n)
				row[at] = w
				all = append(all, of(uint8(n), row...))
			}
		}
	}
	return append(all, of(1, wrongs()[:most]...))
}

// wrongEvents are events that may not be.
func wrongEvents() []api.Event {
	bad := append(crowded(), spoilt()...)
	return append(bad, of(1, append(make([]api.Value, most), wrongs()[0])...))
}

// short is an event as a message tells it.
func short(e api.Event) string {
	s := fmt.Sprintf("topic %d of %d:", e.Topic, len(e.Fields))
	for _, f := range e.Fields[:min(len(e.Fields), most)] {
		s += fmt.Sprintf(" {%d %d %v %.12q of %d}", f.Kind, f.Int, f.Real, f.Text, len(f.Text))
	}
	return s
}

// identicalField tells whether two are the same to the last bit.
func identicalField(a, b api.Value) bool {
	return a.Kind == b.Kind && a.Int == b.Int && math.Float64bits(a.Real) == math.Float64bits(b.Real) && a.Text == b.Text
}

// identical tells whether two are the same to the last bit.
func identical(a, b api.Event) bool {
	return a.Topic == b.Topic && slices.EqualFunc(a.Fields, b.Fields, identicalField)
}

// identicalLogged tells whether two are the same to the last bit.
func identicalLogged(a, b api.Logged) bool {
	return a.Pub == b.Pub && a.Seq == b.Seq && a.At == b.At && identical(a.Event, b.Event)
}

// joined is its parts, one behind the other, in memory of its own.
func joined(parts ...[]byte) []byte { return bytes.Join(parts, nil) }

// copied is an event in memory that no other one has.
func copied(e api.Event) api.Event {
	return api.Event{Topic: e.Topic, Fields: append([]api.Value(nil), e.Fields...)}
}

// P5.1: May

// plainMayField is layer 4's: all that a kind doesn't name is taken away, and that must change nothing.
func plainMayField(v api.Value) bool {
	switch v.Kind {
	case api.None:
		return identicalField(v, api.Value{})
	case api.Whole:
		return identicalField(v, whole(v.Int))
	case api.Real:
		return identicalField(v, number(v.Real))
	case api.Text:
		return identicalField(v, text(v.Text)) && len(v.Text) < 256
	}
	return false
}

func TestMayOfWhatMayBe(t *testing.T) {
	for _, e := range events() {
		if !event.May(e) {
			t.Errorf("May of %s = false", short(e))
		}
	}
}

func TestMayOfWhatMayNotBe(t *testing.T) {
	for _, e := range wrongEvents() {
		if event.May(e) {
			t.Errorf("May of %s = true", short(e))
		}
	}
}

func TestMayByTheNumberOfFields(t *testing.T) {
	for n := range 600 {
		for _, f := range []api.Value{{}, whole(7), text("a")} {
			if got := event.May(of(1, slices.Repeat([]api.Value{f}, n)...)); got != (n <= 8) {
				t.Errorf("May of %d fields = %v", n, got)
			}
		}
	}
}

func TestMayOfEachTopic(t *testing.T) {
	for topic := range 256 {
		if !event.May(of(uint8(topic))) || !event.May(of(uint8(topic), fields(topic, most)...)) || event.May(of(uint8(topic), api.Value{Kind: 4})) {
			t.Errorf("May of topic %d", topic)
		}
	}
}

func TestMayOfAnyField(t *testing.T) {
	for kind := range 256 {
		for _, n := range []int64{0, 1} {
			for _, bits := range []uint64{0, sign, 1, theNaN, theNaN + 1} {
				for _, s := range []string{"", "a", long(255), long(256)} {
					v := api.Value{Kind: uint8(kind), Int: n, Real: math.Float64frombits(bits), Text: s}
					if got := event.May(of(1, whole(1), v)); got != plainMayField(v) {
						t.Errorf("May of %s = %v", short(of(1, whole(1), v)), got)
					}
				}
			}
		}
	}
}

// P5.1: Same

// held is a field's kind, and what that holds; whatever else stands in it doesn't come in.
type held struct {
	kind uint8
	n    int64
	bits uint64
	s    string
}

func plainHeld(v api.Value) held {
	h := held{kind: v.Kind}
	switch {
	case v.Kind == api.Whole:
		h.n = v.Int
	case v.Kind == api.Real && math.IsNaN(v.Real):
		h.bits = theNaN
	case v.Kind == api.Real:
		h.bits = math.Float64bits(v.Real)
	case v.Kind == api.Text:
		h.s = v.Text
	}
	return h
}

func plainSame(a, b api.Event) bool {
	if a.Topic != b.Topic || len(a.Fields) != len(b.Fields) {
		return false
	}
	for i, f := range a.Fields {
		if plainHeld(f) != plainHeld(b.Fields[i]) {
			return false
		}
	}
	return true
}

// wantSame wants an answer of Same, in both orders.
func wantSame(t *testing.T, a, b api.Event, want bool) {
	t.Helper()
	if event.Same(a, b) != want || event.Same(b, a) != want {
		t.Errorf("Same of %s and %s isn't %v", short(a), short(b), want)
	}
}

func TestSameOfAll(t *testing.T) {
	all := append(events(), spoilt()...)
	for _, n := range []int{9, 10, 256, 264} {
		all = append(all, of(1, make([]api.Value, n)...))
	}
	for _, a := range all {
		for _, b := range all {
			if got := event.Same(a, b); got != plainSame(a, b) {
				t.Fatalf("Same of %s and %s = %v", short(a), short(b), got)
			}
		}
	}
}

func TestSameOfCopies(t *testing.T) {
	for _, e := range append(events(), wrongEvents()...) {
		wantSame(t, e, copied(e), true)
	}
}

func TestSameOfOtherTopics(t *testing.T) {
	for n := range most + 1 {
		one, two := of(0, fields(0, n)...), of(0, fields(0, n)...)
		for pair := range 256 * 256 {
			one.Topic, two.Topic = uint8(pair), uint8(pair>>8)
			if event.Same(one, two) != (one.Topic == two.Topic) {
				t.Fatalf("Same of %s and %s", short(one), short(two))
			}
		}
	}
}

// A beginning of an event's fields isn't the event; nor are more fields that hold nothing.
func TestSameOfOtherNumbersOfFields(t *testing.T) {
	for n := range 20 {
		for k := range 20 {
			wantSame(t, of(1, fields(0, n)...), of(1, fields(0, k)...), n == k)
			wantSame(t, of(1, make([]api.Value, n)...), of(1, make([]api.Value, k)...), n == k)
		}
	}
	wantSame(t, of(1), of(1, make([]api.Value, 256)...), false)
}

func TestSameOfAnotherFieldAtEachPlace(t *testing.T) {
	for n := 1; n <= most+1; n++ {
		for at := range n {
			for _, v := range append(values(), wrongs()...) {
				a := of(1, fields(3, n)...)
				b := copied(a)
				b.Fields[at] = v
				wantSame(t, a, b, plainHeld(a.Fields[at]) == plainHeld(v))
			}
		}
	}
}

func TestSameAtTheEdges(t *testing.T) {
	for i, c := range []struct {
		a, b api.Event
		want bool
	}{
		{api.Event{}, api.Event{}, true},
		{api.Event{}, api.Event{Fields: []api.Value{}}, true},
		{of(1), of(2), false},
		{of(1), of(1, api.Value{}), false},
		{of(1, whole(1), whole(2)), of(1, whole(2), whole(1)), false},
		{of(1, whole(0)), of(1, api.Value{}), false},
		{of(1, whole(0)), of(1, number(0)), false},
		{of(1, whole(2)), of(1, number(2)), false},
		{of(1, text("")), of(1, api.Value{}), false},
		{of(1, number(0)), of(1, number(minus())), false},
		{of(1, number(minus())), of(1, number(minus())), true},
		{of(1, number(math.NaN())), of(1, number(math.NaN())), true},
		{of(1, ofBits(theNaN)), of(1, ofBits(theNaN|sign)), true},
		{of(1, whole(1), ofBits(infinity+1)), of(1, whole(1), ofBits(math.MaxUint64)), true},
		{of(1, ofBits(theNaN)), of(1, number(math.Inf(1))), false},
		{of(1, text("a")), of(1, text("A")), false},
		{of(1, text("a")), of(1, text("a\x00")), false},
		// of what may not be, too: by the kind, and what that holds
		{of(1, api.Value{Int: 1}), of(1, api.Value{Text: "a"}), true},
		{of(1, whole(5)), of(1, api.Value{Kind: api.Whole, Int: 5, Real: 1, Text: "a"}), true},
		{of(1, api.Value{Kind: 4, Int: 1}), of(1, api.Value{Kind: 4, Int: 2}), true},
		{of(1, api.Value{Kind: 4}), of(1, api.Value{Kind: 5}), false},
		{of(1, text(long(256))), of(1, text(long(256))), true},
		{of(1, text(long(256))), of(1, text(long(257))), false},
		{of(1, make([]api.Value, 9)...), of(1, make([]api.Value, 9)...), true},
		{of(1, append(make([]api.Value, 9), whole(1))...), of(1, append(make([]api.Value, 9), whole(2))...), false},
	} {
		if event.Same(c.a, c.b) != c.want || event.Same(c.b, c.a) != c.want {
			t.Errorf("%d: Same isn't %v", i, c.want)
		}
	}
}

// P5.1: Put

// highestFirst is the eight bytes of some bits.
func highestFirst(bits uint64) []byte { return binary.BigEndian.AppendUint64(nil, bits) }

// plainField is layer 4's writing; the library's own numbers are those of layer 3.
func plainField(v api.Value) []byte {
	h := plainHeld(v)
	switch v.Kind {
	case api.Whole:
		return binary.AppendVarint([]byte{1}, h.n)
	case api.Real:
		return append([]byte{2}, highestFirst(h.bits)...)
	case api.Text:
		return append(binary.AppendUvarint([]byte{3}, uint64(len(h.s))), h.s...)
	}
	return []byte{0}
}

// plainPut is the chapter's writing of an event that may be.
func plainPut(e api.Event) []byte {
	row := []byte{e.Topic, byte(len(e.Fields))}
	for _, f := range e.Fields {
		row = append(row, plainField(f)...)
	}
	return row
}

// fronts are bytes that a writing stands behind.
func fronts() [][]byte {
	return [][]byte{nil, {}, {0}, {3}, {0x80}, {0xff, 0xff}, []byte("front"), bytes.Repeat([]byte{0x80}, 300)}
}

// behinds are bytes that stand behind a writing.
func behinds() [][]byte {
	return [][]byte{nil, {0}, {1}, {9}, {0x80}, {0xff}, []byte("behind"), bytes.Repeat([]byte{0xff}, 300)}
}

// put is the writing of an event that may be, behind bytes.
func put(t testing.TB, b []byte, e api.Event) []byte {
	t.Helper()
	got, errno := event.Put(b, e)
	if errno != api.OK {
		t.Fatalf("Put(%x, %s) = %v", b, short(e), errno)
	}
	return got
}

func TestPutOfKnownEvents(t *testing.T) {
	for want, e := range map[string]api.Event{
		"\x03\x00":                      of(3),
		"\x00\x00":                      {},
		"\xff\x00":                      of(255),
		"\x80\x01\x00":                  of(128, api.Value{}),
		"\x07\x03\x01\x06\x03\x01x\x00": of(7, whole(3), text("x"), api.Value{}),
		"\x01\x02\x02\x3f\xd0\x00\x00\x00\x00\x00\x00\x01\x01": of(1, number(0.25), whole(-1)),
		"\x01\x01\x02\x7f\xf8\x00\x00\x00\x00\x00\x00":         of(1, ofBits(math.MaxUint64)),
		"\x09\x08\x00\x00\x00\x00\x00\x00\x00\x00":             of(9, make([]api.Value, 8)...),
		"\x02\x01\x03\xff\x01" + long(255):                     of(2, text(long(255))),
	} {
		if got := put(t, nil, e); string(got) != want {
			t.Errorf("Put(nil, %s) = %x, want %x", short(e), got, want)
		}
	}
}

func TestPutOfAll(t *testing.T) {
	for _, e := range events() {
		for _, front := range fronts() {
			if got := put(t, front, e); !bytes.Equal(got, joined(front, plainPut(e))) {
				t.Errorf("Put(%x, %s) = %x", front, short(e), got)
			}
		}
	}
}

func TestPutOfWhatMayNotBe(t *testing.T) {
	for _, e := range wrongEvents() {
		for _, front := range fronts() {
			if got, errno := event.Put(front, e); len(got) != 0 || errno != api.ErrArg {
				t.Errorf("Put(%x, %s) = %x, %v", front, short(e), got, errno)
			}
		}
	}
}

// P5.1: Get

// wantGet wants an event to the last bit, where it ends, and an error.
func wantGet(t *testing.T, b []byte, at int, e api.Event, end int, errno api.Errno) {
	t.Helper()
	got, stop, f := event.Get(b, at)
	if !identical(got, e) || stop != end || f != errno {
		t.Errorf("Get(%.30x of %d, %d) = %s, %d, %v, want %s, %d, %v", b, len(b), at, short(got), stop, f, short(e), end, errno)
	}
}

// wantError wants an error, and nothing beside it, behind every front.
func wantError(t *testing.T, row []byte, errno api.Errno) {
	t.Helper()
	for _, front := range fronts() {
		wantGet(t, joined(front, row), len(front), api.Event{}, 0, errno)
	}
}

// plainEvent is an event as it comes back: of all NaNs the NaN.
func plainEvent(e api.Event) api.Event {
	e = copied(e)
	for i, f := range e.Fields {
		if f.Kind == api.Real && math.IsNaN(f.Real) {
			e.Fields[i].Real = math.Float64frombits(theNaN)
		}
	}
	return e
}

func TestGetOfAll(t *testing.T) {
	for _, e := range events() {
		row := plainPut(e)
		for _, front := range fronts() {
			for _, behind := range behinds() {
				wantGet(t, joined(front, row, behind), len(front), plainEvent(e), len(front)+len(row), api.OK)
			}
		}
	}
}

func TestGetAtPlacesThatAreNone(t *testing.T) {
	room := make([]byte, 64)
	for _, b := range [][]byte{nil, {}, {0}, {9}, {0, 0}, {0, 9}, []byte("\x01\x01\x01\x02"), room[:0], room[:1], room[:2], room} {
		for _, at := range []int{len(b), len(b) + 1, len(b) + 9, 1 << 31, 1 << 32, math.MaxInt - 2, math.MaxInt - 1, math.MaxInt, -1, -2, -9, -1 << 31, -1 << 32, math.MinInt, math.MinInt + 1} {
			wantGet(t, b, at, api.Event{}, 0, api.ErrShort)
		}
		if len(b) > 0 {
			wantGet(t, b, len(b)-1, api.Event{}, 0, api.ErrShort) // a topic is there, but no number of fields
		}
	}
}

func TestGetOfTooFewBytes(t *testing.T) {
	for _, e := range events() {
		row := plainPut(e)
		for have := range row {
			wantGet(t, row[:have], 0, api.Event{}, 0, api.ErrShort) // what is behind the length doesn't count
			wantGet(t, joined([]byte("front"), row[:have]), 5, api.Event{}, 0, api.ErrShort)
		}
	}
}

func TestGetOfTooManyFields(t *testing.T) {
	for n := 9; n < 256; n++ {
		for _, behind := range append(behinds(), make([]byte, n), bytes.Repeat([]byte{4}, n), []byte{3, 0x80, 2}) {
			wantError(t, joined([]byte{7, byte(n)}, behind), api.ErrMany)
		}
	}
}

// A topic may be any byte, those that would be too many fields among them.
func TestGetOfEachTopic(t *testing.T) {
	for topic := range 256 {
		wantGet(t, []byte{byte(topic), 0}, 0, of(uint8(topic)), 2, api.OK)
		wantGet(t, []byte{byte(topic), 1, 0}, 0, of(uint8(topic), api.Value{}), 3, api.OK)
	}
}

// broken is the beginning of a field that is none, and its error.
type broken struct {
	row   []byte
	errno api.Errno
}

// brokens are fields that layer 4 has errors of, whatever stands behind them.
func brokens() []broken {
	nine := bytes.Repeat([]byte{0xff}, 9)
	all := []broken{
		{[]byte{4}, api.ErrKind}, {[]byte{9}, api.ErrKind}, {[]byte{128}, api.ErrKind}, {[]byte{255}, api.ErrKind},
		{[]byte{1, 0x80, 0}, api.ErrForm}, {joined([]byte{1}, nine, []byte{0}), api.ErrForm}, {joined([]byte{1}, nine, []byte{2}), api.ErrLong}, {joined([]byte{1}, nine, []byte{0x81}), api.ErrLong},
		{[]byte{3, 0x80, 2}, api.ErrLong}, {[]byte{3, 0x80, 0x80, 4}, api.ErrLong}, {joined([]byte{3}, nine, []byte{1}), api.ErrLong}, {joined([]byte{3}, nine, []byte{2}), api.ErrLong}, {[]byte{3, 0x81, 0}, api.ErrForm},
	}
	for _, bits := range otherNaNs() {
		all = append(all, broken{joined([]byte{2}, highestFirst(bits)), api.ErrForm})
	}
	return all
}

func TestGetOfBrokenFieldsAtEachPlace(t *testing.T) {
	for _, c := range brokens() {
		for n := 1; n <= most; n++ {
			for at := range n {
				front := joined([]byte{7, byte(n)}, plainPut(of(7, fields(at, at)...))[2:])
				wantError(t, joined(front, c.row), c.errno)
				wantError(t, joined(front, c.row, bytes.Repeat([]byte{0}, 300)), c.errno)
			}
		}
	}
}

// The first field that is none tells the error, whatever is wrong with the next one.
func TestGetTellsTheFrontError(t *testing.T) {
	for _, c := range brokens() {
		for _, d := range brokens() {
			wantError(t, joined([]byte{7, 3, 0}, c.row, d.row), c.errno)
		}
		wantError(t, joined([]byte{7, 9}, c.row), api.ErrMany)
		wantError(t, joined([]byte{7, 255}, c.row), api.ErrMany)
	}
	wantError(t, []byte{7, 2, 1, 0x80}, api.ErrShort)
	wantError(t, []byte{7, 2, 0, 4}, api.ErrKind)
	wantError(t, []byte{7, 2, 4}, api.ErrKind)
	wantError(t, []byte{7, 8, 0, 0, 0, 0, 0, 0, 0}, api.ErrShort)
}

// plainNumber is layer 3's number at the front of a row, and how many bytes it has.
func plainNumber(row []byte) (uint64, int, api.Errno) {
	last := slices.IndexFunc(row, func(c byte) bool { return c < 128 })
	switch {
	case len(row) >= 10 && (last < 0 || last >= 9) && row[9] > 1:
		return 0, 0, api.ErrLong
	case last < 0:
		return 0, 0, api.ErrShort
	case last > 0 && row[last] == 0:
		return 0, 0, api.ErrForm
	}
	n, size := binary.Uvarint(row)
	return n, size, api.OK
}

// plainNumberField is layer 4's field of a whole number or of a text, behind its kind.
func plainNumberField(kind byte, row []byte) (api.Value, int, api.Errno) {
	n, size, errno := plainNumber(row)
	if errno != api.OK {
		return api.Value{}, 0, errno
	}
	if kind == api.Whole {
		signed, _ := binary.Varint(row)
		return whole(signed), size, api.OK
	}
	if n > 255 {
		return api.Value{}, 0, api.ErrLong
	}
	if int(n) > len(row)-size {
		return api.Value{}, 0, api.ErrShort
	}
	return text(string(row[size : size+int(n)])), size + int(n), api.OK
}

// plainGetField is layer 4's field at the front of a row, and how many bytes it has.
func plainGetField(row []byte) (api.Value, int, api.Errno) {
	if len(row) == 0 {
		return api.Value{}, 0, api.ErrShort
	}
	kind, rest := row[0], row[1:]
	switch kind {
	case api.None:
		return api.Value{}, 1, api.OK
	case api.Whole, api.Text:
		v, size, errno := plainNumberField(kind, rest)
		return v, size + 1, errno
	case api.Real:
		if len(rest) < 8 {
			return api.Value{}, 0, api.ErrShort
		}
		bits := binary.BigEndian.Uint64(rest)
		if math.IsNaN(math.Float64frombits(bits)) && bits != theNaN {
			return api.Value{}, 0, api.ErrForm
		}
		return ofBits(bits), 9, api.OK
	}
	return api.Value{}, 0, api.ErrKind
}

// plainGet is the chapter's event at the front of a row, and how many bytes it has.
func plainGet(row []byte) (api.Event, int, api.Errno) {
	if len(row) < 2 {
		return api.Event{}, 0, api.ErrShort
	}
	if row[1] > 8 {
		return api.Event{}, 0, api.ErrMany
	}
	e, size := of(row[0]), 2
	for len(e.Fields) < int(row[1]) {
		v, more, errno := plainGetField(row[size:])
		if errno != api.OK {
			return api.Event{}, 0, errno
		}
		e.Fields = append(e.Fields, v)
		size += more
	}
	return e, size, api.OK
}

// likelyBytes are a row that looks like an event's writing, by noise, with places that are spoilt.
func likelyBytes(seed uint64) []byte {
	n := noise(seed, 4)
	row := plainPut(of(byte(n[0]), fields(int(n[1]%1000), int(n[2]%9))...))
	if n[3]%3 > 0 {
		row[int(n[3]>>8)%len(row)] = byte(n[3] >> 40)
	}
	if n[3]%5 == 0 {
		row = row[:int(n[3]>>16)%len(row)]
	}
	return row
}

// anyRows are rows of all bytes at the edges, and such as look like writings.
func anyRows() [][]byte {
	edges := []byte{0, 1, 2, 3, 4, 8, 9, 0x80, 0xff}
	var all [][]byte
	for _, a := range edges {
		for _, b := range edges {
			for _, c := range edges {
				for _, d := range edges {
					all = append(all, []byte{a, b, c, d}, []byte{7, a, b, c, d, 1, 1, 1})
				}
			}
		}
	}
	for i := range 3000 {
		all = append(all, likelyBytes(uint64(i)))
	}
	return all
}

// getAsSaid wants what the chapter says of a place.
func getAsSaid(t *testing.T, b []byte, at int) {
	t.Helper()
	if at < 0 || at > len(b) {
		wantGet(t, b, at, api.Event{}, 0, api.ErrShort)
		return
	}
	e, size, errno := plainGet(b[at:])
	if errno == api.OK {
		size += at
	}
	wantGet(t, b, at, e, size, errno)
}

func TestGetOfAnyBytes(t *testing.T) {
	for _, b := range anyRows() {
		for at := range min(len(b), 12) {
			getAsSaid(t, b, at)
		}
	}
}

// P5.1: Write

// numbers are numbers where a writing grows, and at the ends.
func numbers() []uint64 {
	all := []uint64{0, 1, 300, math.MaxUint64, math.MaxUint64 - 1, 1 << 40, 1<<40 + 1}
	for shift := 7; shift < 64; shift += 7 {
		all = append(all, 1<<shift-1, 1<<shift)
	}
	return all
}

// pubs are publishers' numbers.
func pubs() []uint32 {
	return []uint32{0, 1, 9, 127, 128, 255, 256, 16383, 16384, 1<<21 - 1, 1 << 21, 1<<28 - 1, 1 << 28, 1 << 31, math.MaxUint32 - 1, math.MaxUint32}
}

// loggeds are logged events whose events may be.
func loggeds() []api.Logged {
	var all []api.Logged
	for i, pub := range pubs() {
		for k, n := range numbers() {
			all = append(all, api.Logged{Pub: pub, Seq: n, At: numbers()[(k*5+i)%len(numbers())], Event: of(uint8(i*k), fields(i, k%(most+1))...)})
		}
	}
	for i, e := range events() {
		all = append(all, api.Logged{Pub: uint32(i), Seq: uint64(i * i), At: uint64(i) << 33, Event: e})
	}
	return all
}

// plainFront is three numbers, as they stand ahead of an event.
func plainFront(pub, seq, at uint64) []byte {
	return binary.AppendUvarint(binary.AppendUvarint(binary.AppendUvarint(nil, pub), seq), at)
}

// plainWrite is the chapter's writing of a logged event whose event may be.
func plainWrite(l api.Logged) []byte {
	return joined(plainFront(uint64(l.Pub), l.Seq, l.At), plainPut(l.Event))
}

// write is the writing of a logged event whose event may be.
func write(t testing.TB, l api.Logged) []byte {
	t.Helper()
	got, errno := event.Write(l)
	if errno != api.OK {
		t.Fatalf("Write of %d %d %d %s = %v", l.Pub, l.Seq, l.At, short(l.Event), errno)
	}
	return got
}

func TestWriteOfKnownLoggedEvents(t *testing.T) {
	for want, l := range map[string]api.Logged{
		"\x00\x00\x00\x00\x00":                                     {},
		"\x01\x02\x03\x04\x00":                                     {Pub: 1, Seq: 2, At: 3, Event: of(4)},
		"\x09\xac\x02\x05\x07\x02\x01\x06\x03\x01x":                {Pub: 9, Seq: 300, At: 5, Event: of(7, whole(3), text("x"))},
		"\xff\xff\xff\xff\x0f\x00\x00\x01\x01\x00":                 {Pub: math.MaxUint32, Event: of(1, api.Value{})},
		"\x00\xff\xff\xff\xff\xff\xff\xff\xff\xff\x01\x00\x00\x00": {Seq: math.MaxUint64},
		"\x00\x00\xff\xff\xff\xff\xff\xff\xff\xff\xff\x01\x00\x00": {At: math.MaxUint64},
	} {
		if got := write(t, l); string(got) != want {
			t.Errorf("Write of %d %d %d %s = %x, want %x", l.Pub, l.Seq, l.At, short(l.Event), got, want)
		}
	}
}

func TestWriteOfAll(t *testing.T) {
	for _, l := range loggeds() {
		if got := write(t, l); !bytes.Equal(got, plainWrite(l)) {
			t.Errorf("Write of %d %d %d %s = %x", l.Pub, l.Seq, l.At, short(l.Event), got)
		}
	}
}

func TestWriteOfEventsThatMayNotBe(t *testing.T) {
	for _, e := range wrongEvents() {
		for _, l := range []api.Logged{{Event: e}, {Pub: math.MaxUint32, Seq: math.MaxUint64, At: math.MaxUint64, Event: e}} {
			if got, errno := event.Write(l); len(got) != 0 || errno != api.ErrArg {
				t.Errorf("Write of %s = %x, %v", short(e), got, errno)
			}
		}
	}
}

// P5.1: Read

// wantRead wants a logged event to the last bit, and an error.
func wantRead(t *testing.T, b []byte, l api.Logged, errno api.Errno) {
	t.Helper()
	got, f := event.Read(b)
	if !identicalLogged(got, l) || f != errno {
		t.Errorf("Read(%.40x of %d) = %d %d %d %s, %v, want %d %d %d %s, %v", b, len(b), got.Pub, got.Seq, got.At, short(got.Event), f, l.Pub, l.Seq, l.At, short(l.Event), errno)
	}
}

// wantUnread wants an error, and nothing beside it.
func wantUnread(t *testing.T, b []byte, errno api.Errno) {
	t.Helper()
	wantRead(t, b, api.Logged{}, errno)
}

func TestReadOfAll(t *testing.T) {
	for _, l := range loggeds() {
		back := l
		back.Event = plainEvent(l.Event)
		wantRead(t, plainWrite(l), back, api.OK)
	}
}

func TestReadOfTooFewBytes(t *testing.T) {
	wantUnread(t, nil, api.ErrShort)
	wantUnread(t, []byte{}, api.ErrShort)
	for _, l := range loggeds() {
		row := plainWrite(l)
		for have := range row {
			wantUnread(t, row[:have], api.ErrShort) // what is behind the length doesn't count
		}
		wantUnread(t, bytes.Clone(row[:len(row)-1]), api.ErrShort)
	}
}

func TestReadOfBytesThatAreLeft(t *testing.T) {
	for _, l := range loggeds() {
		for _, behind := range behinds()[1:] {
			wantUnread(t, joined(plainWrite(l), behind), api.ErrForm)
		}
		wantUnread(t, joined(plainWrite(l), plainWrite(l)), api.ErrForm)
	}
}

func TestReadOfGreatPublishers(t *testing.T) {
	for _, pub := range []uint64{0, 1, 1 << 31, 1<<32 - 2, 1<<32 - 1} {
		wantRead(t, joined(plainFront(pub, 1, 2), []byte{3, 0}), api.Logged{Pub: uint32(pub), Seq: 1, At: 2, Event: of(3)}, api.OK)
	}
	for _, pub := range []uint64{1 << 32, 1<<32 + 1, 1<<32 + 9, 1 << 33, 1 << 40, 1<<63 - 1, 1 << 63, 1<<64 - 1<<32, math.MaxUint64} {
		wantUnread(t, joined(plainFront(pub, 1, 2), []byte{3, 0}), api.ErrRange)
	}
}

// A great publisher is told first, whatever is wrong behind it.
func TestReadTellsAGreatPublisherFirst(t *testing.T) {
	great := binary.AppendUvarint(nil, 1<<32)
	wantUnread(t, great, api.ErrRange)
	for _, behind := range [][]byte{{0x80}, {0x80, 0}, bytes.Repeat([]byte{0xff}, 10), {1}, {1, 1}, {1, 0x80, 0}, {1, 1, 7}, {1, 1, 7, 9}, {1, 1, 7, 1, 4}, {1, 1, 7, 0, 0}} {
		wantUnread(t, joined(great, behind), api.ErrRange)
	}
	wantUnread(t, great[:len(great)-1], api.ErrShort) // it isn't there as a whole
}

// spoiltNumbers are numbers of layer 3 that are none, and their errors.
func spoiltNumbers() []broken {
	nine := bytes.Repeat([]byte{0xff}, 9)
	return []broken{
		{[]byte{0x80, 0}, api.ErrForm}, {[]byte{0xff, 0}, api.ErrForm}, {[]byte{0x80, 0x80, 0}, api.ErrForm}, {joined(nine, []byte{0}), api.ErrForm},
		{joined(nine, []byte{2}), api.ErrLong}, {joined(nine, []byte{0x80}), api.ErrLong}, {joined(nine, []byte{0xff, 0}), api.ErrLong},
	}
}

func TestReadOfSpoiltNumbers(t *testing.T) {
	rests := append(behinds(), []byte{7, 0}, []byte{7, 9}, []byte{7, 1, 4})
	for _, c := range spoiltNumbers() {
		for _, front := range [][]byte{nil, {1}, {1, 1}, plainFront(1<<32-1, math.MaxUint64, 0)[:15]} {
			for _, rest := range rests {
				wantUnread(t, joined(front, c.row, rest), c.errno)
			}
			for _, d := range spoiltNumbers() {
				wantUnread(t, joined(front, c.row, d.row), c.errno)
			}
		}
	}
}

func TestReadOfBrokenEvents(t *testing.T) {
	for _, front := range [][]byte{{0, 0, 0}, plainFront(9, 300, 5), plainFront(math.MaxUint32, math.MaxUint64, math.MaxUint64)} {
		for n := 9; n < 256; n++ {
			wantUnread(t, joined(front, []byte{7, byte(n)}), api.ErrMany)
			wantUnread(t, joined(front, []byte{7, byte(n)}, make([]byte, n)), api.ErrMany)
		}
		for _, c := range brokens() {
			for at := range most {
				row := joined(front, []byte{7, most}, plainPut(of(7, fields(at, at)...))[2:], c.row)
				wantUnread(t, row, c.errno)
				wantUnread(t, joined(row, []byte("\x04behind")), c.errno)
			}
		}
	}
}

// plainRead is the chapter's Read.
func plainRead(b []byte) (api.Logged, api.Errno) {
	var front [3]uint64
	at := 0
	for i := range front {
		n, size, errno := plainNumber(b[at:])
		if errno != api.OK {
			return api.Logged{}, errno
		}
		if i == 0 && n>>32 > 0 {
			return api.Logged{}, api.ErrRange
		}
		front[i], at = n, at+size
	}
	e, size, errno := plainGet(b[at:])
	if errno != api.OK {
		return api.Logged{}, errno
	}
	if at+size != len(b) {
		return api.Logged{}, api.ErrForm
	}
	return api.Logged{Pub: uint32(front[0]), Seq: front[1], At: front[2], Event: e}, api.OK
}

// readAsSaid wants what the chapter says of bytes.
func readAsSaid(t *testing.T, b []byte) {
	t.Helper()
	l, errno := plainRead(b)
	wantRead(t, b, l, errno)
}

// anyLogs are rows of any bytes, many of which have the front of a logged event.
func anyLogs() [][]byte {
	all := anyRows()
	for i, row := range anyRows() {
		front := plainFront(uint64(i)*uint64(i)*997, uint64(i), noise(uint64(i), 1)[0])
		all = append(all, joined([]byte{1, 2, 3}, row), joined(front, row))
	}
	return all
}

func TestReadOfAnyBytes(t *testing.T) {
	for _, b := range anyLogs() {
		readAsSaid(t, b)
	}
}

// P5.1: Own

func TestOwnIsAsItWas(t *testing.T) {
	for _, e := range append(events(), wrongEvents()...) {
		was := copied(e)
		if got := event.Own(e); !identical(got, was) || !identical(e, was) {
			t.Errorf("Own of %s = %s", short(was), short(got))
		}
	}
}

func TestOwnHasAListOfItsOwn(t *testing.T) {
	for _, e := range append(events(), wrongEvents()...) {
		room := append(copied(e).Fields, make([]api.Value, 3)...)
		handed := api.Event{Topic: e.Topic, Fields: room[:len(e.Fields)]}
		got := event.Own(handed)
		for i := range room {
			room[i] = text("later")
		}
		if !identical(got, e) {
			t.Fatalf("Own of %s became %s, as the list was written over", short(e), short(got))
		}
		for i := range got.Fields {
			got.Fields[i] = text("own")
		}
		got.Fields = append(got.Fields, text("own"))
		for i := range room {
			if room[i].Text != "later" {
				t.Fatalf("what is written into Own of %s is in the list that was handed in", short(e))
			}
		}
	}
}

func TestOwnOfNoFields(t *testing.T) {
	room := []api.Value{whole(1), whole(2)}
	for _, e := range []api.Event{{}, {Topic: 7}, {Topic: 7, Fields: []api.Value{}}, {Topic: 255, Fields: room[:0]}} {
		got := event.Own(e)
		if got.Topic != e.Topic || len(got.Fields) != 0 {
			t.Errorf("Own of %s = %s", short(e), short(got))
		}
		_ = append(got.Fields, text("own"))
	}
	if room[0] != whole(1) {
		t.Error("Own of no fields keeps the memory behind them")
	}
}

// P5.2

func TestWhatIsPutIsGotAsItWas(t *testing.T) {
	for _, e := range events() {
		for _, front := range fronts() {
			b := put(t, front, e)
			got, end, errno := event.Get(b, len(front))
			if !event.Same(got, e) || !plainSame(got, e) || !event.May(got) || end != len(b) || errno != api.OK {
				t.Errorf("%s came back as %s, %d of %d, %v", short(e), short(got), end, len(b), errno)
			}
		}
	}
}

// Events one behind the other: each is got where the last one ended.
func TestWhatIsPutIsGotWhereverItStands(t *testing.T) {
	var row []byte
	for _, e := range events() {
		row = put(t, row, e)
	}
	at := 0
	for _, e := range events() {
		got, end, errno := event.Get(row, at)
		if !event.Same(got, e) || errno != api.OK {
			t.Fatalf("at %d stands %s, %v, want %s", at, short(got), errno, short(e))
		}
		at = end
	}
	if at != len(row) {
		t.Errorf("the last ends at %d of %d", at, len(row))
	}
}

func TestWhatIsWrittenIsReadAsItWas(t *testing.T) {
	for _, l := range loggeds() {
		got, errno := event.Read(write(t, l))
		if got.Pub != l.Pub || got.Seq != l.Seq || got.At != l.At || !event.Same(got.Event, l.Event) || errno != api.OK {
			t.Errorf("%d %d %d %s came back as %d %d %d %s, %v", l.Pub, l.Seq, l.At, short(l.Event), got.Pub, got.Seq, got.At, short(got.Event), errno)
		}
	}
}

// putAsItStood wants what is got to be one that may be, and to be put as it stood; it tells whether something was got.
func putAsItStood(t *testing.T, b []byte, at int) bool {
	t.Helper()
	e, end, errno := event.Get(b, at)
	if errno != api.OK {
		return false
	}
	if !event.May(e) || end <= at || end > len(b) || !bytes.Equal(put(t, nil, e), b[at:end]) {
		t.Errorf("Get(%x, %d) = %s, %d", b, at, short(e), end)
	}
	return true
}

// writtenAsItStood wants what is read to be written as it stood; it tells whether something was read.
func writtenAsItStood(t *testing.T, b []byte) bool {
	t.Helper()
	l, errno := event.Read(b)
	if errno != api.OK {
		return false
	}
	if !bytes.Equal(write(t, l), b) {
		t.Errorf("Read(%x) = %d %d %d %s, which is written as %x", b, l.Pub, l.Seq, l.At, short(l.Event), write(t, l))
	}
	return true
}

func TestWhatIsGotIsPutAsItStood(t *testing.T) {
	got := 0
	for _, b := range anyRows() {
		for at := range min(len(b), 12) {
			if putAsItStood(t, b, at) {
				got++
			}
		}
	}
	if got < 1000 {
		t.Errorf("only %d of the rows are events", got)
	}
}

func TestWhatIsReadIsWrittenAsItStood(t *testing.T) {
	read := 0
	for _, b := range anyLogs() {
		if writtenAsItStood(t, b) {
			read++
		}
	}
	if read < 1000 {
		t.Errorf("only %d of the rows are logged events", read)
	}
}

// R3, R4, R5

func TestWhatIsPutLiesInNewMemory(t *testing.T) {
	const size = 4096
	for _, e := range events() {
		room := bytes.Repeat([]byte{0xaa}, size)
		got := put(t, room[:5], e) // it would fit behind them
		want := bytes.Clone(got)
		if !bytes.Equal(room, bytes.Repeat([]byte{0xaa}, size)) {
			t.Errorf("Put of %s writes into what was handed in", short(e))
		}
		for k := range room {
			room[k] = 0x55
		}
		if !bytes.Equal(got, want) {
			t.Errorf("Put of %s answers memory that was handed in", short(e))
		}
		for k := range got {
			got[k] = 0x77
		}
		if !bytes.Equal(room, bytes.Repeat([]byte{0x55}, size)) {
			t.Errorf("Put of %s answers memory that was handed in", short(e))
		}
	}
}

func TestPutOfWhatMayNotBeLeavesWhatWasHandedIn(t *testing.T) {
	for _, e := range wrongEvents() {
		room := bytes.Repeat([]byte{0xaa}, 400)
		event.Put(room[:5], e)
		if !bytes.Equal(room, bytes.Repeat([]byte{0xaa}, 400)) {
			t.Errorf("Put of %s writes into what was handed in", short(e))
		}
	}
}

func TestTwoPutsBehindOneRowShareNothing(t *testing.T) {
	for _, e := range events() {
		front := put(t, nil, of(1, text("front")))
		a, b := put(t, front, e), put(t, front, of(2, whole(77)))
		for k := range b {
			b[k] = 0xee
		}
		if !bytes.Equal(a, joined(plainPut(of(1, text("front"))), plainPut(e))) || !bytes.Equal(front, plainPut(of(1, text("front")))) {
			t.Errorf("what is put later behind the same row changes %s to %x", short(e), a)
		}
	}
}

// Fields are neither changed nor kept: a row that was put stays, when the list is written over.
func TestFieldsThatAreHandedInStay(t *testing.T) {
	for _, e := range events() {
		handed, row := copied(e), plainPut(e)
		got, logged := put(t, nil, handed), write(t, api.Logged{Event: handed})
		event.May(handed)
		event.Same(handed, e)
		if !identical(handed, e) {
			t.Errorf("%s became %s", short(e), short(handed))
		}
		for i := range handed.Fields {
			handed.Fields[i] = text("later")
		}
		if !bytes.Equal(got, row) || !bytes.Equal(logged[3:], row) {
			t.Errorf("the writing of %s became %x, %x", short(e), got, logged)
		}
	}
}

func TestNoListIsAnEmptyOne(t *testing.T) {
	none, empty := api.Event{Topic: 7}, api.Event{Topic: 7, Fields: []api.Value{}}
	wantSame(t, none, empty, true)
	if !event.May(none) || !event.May(empty) {
		t.Error("an event without fields may not be")
	}
	for _, front := range [][]byte{nil, {}} {
		for _, e := range []api.Event{none, empty} {
			if got := put(t, front, e); string(got) != "\x07\x00" {
				t.Errorf("Put(%v, %v) = %x", front, e, got)
			}
		}
	}
}

func TestWhatIsGotFromStays(t *testing.T) {
	for _, e := range events() {
		b := plainWrite(api.Logged{Pub: 1, Seq: 2, At: 3, Event: e})
		was := bytes.Clone(b)
		got, _, errno := event.Get(b, 3)
		read, f := event.Read(b)
		if !bytes.Equal(b, was) || errno != api.OK || f != api.OK {
			t.Errorf("getting changed %x to %x; %v, %v", was, b, errno, f)
		}
		for i := range b {
			b[i] = 'z'
		}
		if !identical(got, plainEvent(e)) || !identical(read.Event, plainEvent(e)) {
			t.Errorf("%s became %s, %s, as the bytes were written over", short(e), short(got), short(read.Event))
		}
	}
}

// Two that are got from the same bytes have lists of their own.
func TestWhatIsGotTwiceSharesNothing(t *testing.T) {
	for _, e := range events() {
		b := plainPut(e)
		one, _, _ := event.Get(b, 0)
		two, _, _ := event.Get(b, 0)
		for i := range one.Fields {
			one.Fields[i] = text("other")
		}
		if !identical(two, plainEvent(e)) {
			t.Errorf("%s became %s", short(e), short(two))
		}
	}
}

func TestTheSameIsAnsweredAgain(t *testing.T) {
	for _, b := range anyLogs() {
		l, errno := event.Read(b)
		if m, f := event.Read(b); !identicalLogged(l, m) || errno != f {
			t.Errorf("Read(%x) answers otherwise the second time", b)
		}
	}
}

// R1: any bytes, at any place, are answered as the chapter says, and come back as they stood.
func FuzzAnyBytes(f *testing.F) {
	for i, l := range loggeds() {
		f.Add(plainWrite(l), i%4)
	}
	f.Add([]byte{7, 9}, 0)
	f.Add([]byte{}, -1)
	f.Add([]byte{7}, math.MaxInt)
	f.Fuzz(func(t *testing.T, b []byte, at int) {
		getAsSaid(t, b, at)
		putAsItStood(t, b, at)
		readAsSaid(t, b)
		writtenAsItStood(t, b)
	})
}

// plainMay is the chapter's.
func plainMay(e api.Event) bool {
	return len(e.Fields) < 9 && !slices.ContainsFunc(e.Fields, func(f api.Value) bool { return !plainMayField(f) })
}

// R1: any event is answered as the chapter says.
func FuzzAnyEvents(f *testing.F) {
	f.Add(uint8(3), uint8(2), uint8(1), int64(5), uint64(0), "", uint32(1), uint64(2))
	f.Add(uint8(3), uint8(8), uint8(2), int64(0), theNaN+1, "", uint32(math.MaxUint32), uint64(math.MaxUint64))
	f.Add(uint8(3), uint8(9), uint8(3), int64(0), uint64(0), "text", uint32(0), uint64(0))
	f.Fuzz(func(t *testing.T, topic, n, kind uint8, whole int64, bits uint64, s string, pub uint32, seq uint64) {
		v := api.Value{Kind: kind, Int: whole, Real: math.Float64frombits(bits), Text: s}
		e := of(topic, append(fields(int(n), int(n)), v, api.Value{Kind: api.Real, Real: v.Real})...)
		if event.May(e) != plainMay(e) || !event.Same(e, copied(e)) || !identical(event.Own(e), e) {
			t.Errorf("%s: May %v", short(e), event.May(e))
		}
		l := api.Logged{Pub: pub, Seq: seq, At: seq ^ bits, Event: e}
		row, errno := event.Write(l)
		if plainMay(e) != (errno == api.OK) {
			t.Errorf("Write of %s = %v", short(e), errno)
		}
		if errno == api.OK && !bytes.Equal(row, plainWrite(l)) {
			t.Errorf("Write of %s = %x", short(e), row)
		}
	})
}
