package evlog_test

import (
	"encoding/binary"
	"fmt"
	"hash/crc32"
	"maps"
	"math"
	"slices"
	"strings"
	"testing"

	"equerry/api"
	"equerry/disk"
	"equerry/event"
	"equerry/evlog"
)

// writing is a logged event's writing, by the library's own writings of numbers.
func writing(l api.Logged) string {
	b := binary.AppendUvarint(nil, uint64(l.Pub))
	b = binary.AppendUvarint(b, l.Seq)
	b = binary.AppendUvarint(b, l.At)
	b = append(b, l.Event.Topic, byte(len(l.Event.Fields)))
	for _, f := range l.Event.Fields {
		b = append(b, f.Kind)
		switch f.Kind {
		case api.Whole:
			b = binary.AppendVarint(b, f.Int)
		case api.Real:
			bits := math.Float64bits(f.Real)
			if f.Real != f.Real {
				bits = 0x7ff8000000000000 // all NaNs are one
			}
			b = binary.BigEndian.AppendUint64(b, bits)
		case api.Text:
			b = append(binary.AppendUvarint(b, uint64(len(f.Text))), f.Text...)
		}
	}
	return string(b)
}

// frame is a record's frame, by the library's own sum.
func frame(record string) string {
	b := binary.BigEndian.AppendUint32(nil, uint32(len(record)))
	sum := crc32.ChecksumIEEE(append(slices.Clone(b), record...))
	return string(binary.BigEndian.AppendUint32(b, sum)) + record
}

// frames are the frames of events one behind the other.
func frames(events ...api.Logged) string {
	var b strings.Builder
	for _, l := range events {
		b.WriteString(frame(writing(l)))
	}
	return b.String()
}

// manifest is a manifest's file that tells segments.
func manifest(starts ...uint64) string {
	b := binary.AppendUvarint(nil, uint64(len(starts)))
	for _, start := range starts {
		b = binary.AppendUvarint(b, start)
	}
	return frame(string(b))
}

const short = 13 // bytes of the frame of a short event: numbers below 128, no fields

// logged is a short event, the number of whose topic is that of its number and its publisher's.
func logged(pub uint32, seq, at uint64) api.Logged {
	return api.Logged{Pub: pub, Seq: seq, At: at, Event: topic(pub, seq)}
}

func topic(pub uint32, seq uint64) api.Event { return api.Event{Topic: uint8(uint64(pub)*16 + seq)} }

func newDisk(t *testing.T, room int) *disk.Disk {
	t.Helper()
	d, errno := disk.New(room)
	if errno != api.OK {
		t.Fatalf("New(%d) = %v", room, errno)
	}
	return d
}

// laid is a disk with files, all of them safe.
func laid(t *testing.T, files map[string]string) *disk.Disk {
	t.Helper()
	d := newDisk(t, api.MaxDisk)
	for name, b := range files {
		wantErrno(t, "Append to "+name, d.Append(name, []byte(b)), api.OK)
		wantErrno(t, "Sync of "+name, d.Sync(name), api.OK)
	}
	return d
}

func open(t *testing.T, d *disk.Disk, most int) *evlog.Log {
	t.Helper()
	l, errno := evlog.Open(d, most)
	if l == nil || errno != api.OK {
		t.Fatalf("Open = %v, %v", l, errno)
	}
	return l
}

// opened is a log on a disk of its own, two short events a segment.
func opened(t *testing.T) (*disk.Disk, *evlog.Log) {
	t.Helper()
	d := newDisk(t, api.MaxDisk)
	return d, open(t, d, 2*short)
}

func wantErrno(t *testing.T, what string, got, want api.Errno) {
	t.Helper()
	if got != want {
		t.Errorf("%s = %v, want %v", what, got, want)
	}
}

// put publishes each event at its own time.
func put(t *testing.T, l *evlog.Log, events ...api.Logged) {
	t.Helper()
	for _, e := range events {
		wantPut(t, l, e.At, e)
	}
}

// wantPut publishes an event at a time, and holds it against what is to be in the log then.
func wantPut(t *testing.T, l *evlog.Log, now uint64, want api.Logged) {
	t.Helper()
	end := l.End()
	n, errno := l.Publish(want.Pub, want.Seq, now, want.Event)
	if n != end || errno != api.OK || l.End() != end+1 || l.Seq(want.Pub) != want.Seq {
		t.Fatalf("Publish(%d, %d, %d) = %d, %v, want %d; end %d, last number %d", want.Pub, want.Seq, now, n, errno, end, l.End(), l.Seq(want.Pub))
	}
	wantEvent(t, l, n, want)
}

func wantRefused(t *testing.T, l *evlog.Log, pub uint32, seq, now uint64, e api.Event, want api.Errno) {
	t.Helper()
	if n, errno := l.Publish(pub, seq, now, e); n != 0 || errno != want {
		t.Errorf("Publish(%d, %d, %d) = %d, %v, want 0, %v", pub, seq, now, n, errno, want)
	}
}

// same tells whether two logged events are.
func same(a, b api.Logged) bool {
	return a.Pub == b.Pub && a.Seq == b.Seq && a.At == b.At && event.Same(a.Event, b.Event)
}

func wantEvent(t *testing.T, l *evlog.Log, n uint64, want api.Logged) {
	t.Helper()
	if got, errno := l.Get(n); errno != api.OK || !same(got, want) {
		t.Errorf("Get(%d) = %v, %v, want %v", n, got, errno, want)
	}
}

// wantNoEvent holds what Get answers against nothing, and an error.
func wantNoEvent(t *testing.T, l *evlog.Log, n uint64, want api.Errno) {
	t.Helper()
	if got, errno := l.Get(n); errno != want || !same(got, api.Logged{}) || got.Event.Fields != nil {
		t.Errorf("Get(%d) = %v, %v, want %v", n, got, errno, want)
	}
}

// seqs are publishers' last numbers.
type seqs map[uint32]uint64

// has is what a log is to tell.
type has struct {
	base, safe uint64
	events     []api.Logged
	seqs       seqs
}

// wantLog holds all that a log tells against what is wanted.
func wantLog(t *testing.T, l *evlog.Log, want has) {
	t.Helper()
	end := want.base + uint64(len(want.events))
	if l.Base() != want.base || l.Safe() != want.safe || l.End() != end {
		t.Errorf("base %d, safe %d, end %d, want %d, %d, %d", l.Base(), l.Safe(), l.End(), want.base, want.safe, end)
	}
	for i, e := range want.events {
		wantEvent(t, l, want.base+uint64(i), e)
	}
	for _, n := range []uint64{want.base - 1, 0, end, end + 1, api.MaxIndex, 1 << 63, math.MaxUint64} {
		if n < want.base || n >= end {
			wantNoEvent(t, l, n, api.ErrNone)
		}
	}
	if got, want := l.Pubs(), slices.Sorted(maps.Keys(want.seqs)); !slices.Equal(got, want) {
		t.Errorf("Pubs = %v, want %v", got, want)
	}
	for _, pub := range append(slices.Collect(maps.Keys(want.seqs)), 0, 1, 2, 77, math.MaxUint32) {
		if got := l.Seq(pub); got != want.seqs[pub] {
			t.Errorf("Seq(%d) = %d, want %d", pub, got, want.seqs[pub])
		}
	}
}

// wantTime holds the last time, which a new publisher's event shows, against what is wanted.
func wantTime(t *testing.T, l *evlog.Log, want uint64) {
	t.Helper()
	const shows = 1 << 20
	wantPut(t, l, 0, api.Logged{Pub: shows + uint32(l.End()), Seq: 1, At: want})
}

// filesOf are all files of a disk.
func filesOf(d *disk.Disk) map[string]string {
	files := map[string]string{}
	for _, name := range d.List() {
		b, _ := d.Read(name)
		files[name] = string(b)
	}
	return files
}

func wantFiles(t *testing.T, d *disk.Disk, want map[string]string) {
	t.Helper()
	if got := filesOf(d); !maps.Equal(got, want) {
		t.Errorf("the files are %q, want %q", got, want)
	}
}

// P17.1: Publish, and what is there

func TestTheChaptersExample(t *testing.T) {
	_, l := opened(t)
	if n, errno := l.Publish(7, 1, 5, api.Event{}); n != 0 || errno != api.OK {
		t.Errorf("Publish(7, 1) = %d, %v", n, errno)
	}
	wantRefused(t, l, 7, 1, 5, api.Event{}, api.ErrOld)
	wantRefused(t, l, 7, 3, 5, api.Event{}, api.ErrGap)
}

func TestEventsAreNumberedInOrder(t *testing.T) {
	d := newDisk(t, 1000)
	l := open(t, d, api.MaxDisk)
	wantLog(t, l, has{})
	wantFiles(t, d, map[string]string{"ev.m": manifest(0)})
	events := []api.Logged{logged(7, 1, 0), logged(3, 1, 2), logged(7, 2, 2), logged(0, 1, 9), logged(3, 2, 10), logged(7, 3, 11)}
	put(t, l, events...)
	last := seqs{0: 1, 3: 2, 7: 3}
	wantLog(t, l, has{events: events, seqs: last})
	wantFiles(t, d, map[string]string{"ev.m": manifest(0), "ev.0": frames(events...)})
	if d.Safe("ev.0") != 0 {
		t.Error("what isn't made safe is")
	}
	wantErrno(t, "Sync", l.Sync(), api.OK)
	wantLog(t, l, has{safe: 6, events: events, seqs: last})
	put(t, l, logged(3, 3, 11))
	last[3] = 3
	wantLog(t, l, has{safe: 6, events: append(events, logged(3, 3, 11)), seqs: last})
	if d.Safe("ev.0") != 6*short {
		t.Errorf("%d bytes are safe", d.Safe("ev.0"))
	}
}

// rich are events of all that an event may hold, up to its bounds.
func rich() []api.Event {
	whole := func(n int64) api.Value { return api.Value{Kind: api.Whole, Int: n} }
	float := func(x float64) api.Value { return api.Value{Kind: api.Real, Real: x} }
	text := func(s string) api.Value { return api.Value{Kind: api.Text, Text: s} }
	long := text(strings.Repeat("\xff", api.MaxText))
	return []api.Event{
		{},
		{Topic: 255},
		{Topic: 3, Fields: []api.Value{{}}},
		{Topic: 1, Fields: []api.Value{whole(0), whole(-1), whole(math.MaxInt64), whole(math.MinInt64)}},
		{Topic: 2, Fields: []api.Value{float(0), float(math.Copysign(0, -1)), float(2.5), float(math.Inf(-1)), float(math.SmallestNonzeroFloat64), float(math.MaxFloat64)}},
		{Topic: 4, Fields: []api.Value{text(""), text("a"), text("\x00\xff"), text("läufe"), {}, whole(7), float(-7)}},
		{Topic: 5, Fields: slices.Repeat([]api.Value{long}, api.MaxFields)},
		{Topic: 6, Fields: make([]api.Value, api.MaxFields)},
		{Topic: 7, Fields: []api.Value{}},
	}
}

func TestEventsAreThereAsTheyWere(t *testing.T) {
	d := newDisk(t, api.MaxDisk)
	l := open(t, d, 1000)
	var events []api.Logged
	for i, e := range rich() {
		events = append(events, api.Logged{Pub: math.MaxUint32, Seq: uint64(i) + 1, At: api.MaxTime - 9 + uint64(i), Event: e})
	}
	put(t, l, events...)
	wantErrno(t, "Sync", l.Sync(), api.OK)
	want := has{safe: uint64(len(events)), events: events, seqs: seqs{math.MaxUint32: uint64(len(events))}}
	wantLog(t, l, want)
	wantLog(t, open(t, d, 1000), want)
	real, _ := l.Get(8)
	if real.Event.Fields != nil {
		t.Errorf("an event without fields has %v", real.Event.Fields)
	}
	all := ""
	for _, name := range slices.Sorted(maps.Keys(filesOf(d))) {
		if name != "ev.m" {
			all += filesOf(d)[name]
		}
	}
	if all != frames(events...) {
		t.Errorf("the files have %q", all)
	}
}

func TestPublishersUpToTheGreatest(t *testing.T) {
	d, l := opened(t)
	pubs := []uint32{math.MaxUint32, 0, 1 << 31, 127, 128, 1<<31 - 1, 1, 1 << 16, 300}
	last := seqs{}
	var events []api.Logged
	for i, pub := range pubs {
		wantRefused(t, l, pub, 0, 0, api.Event{}, api.ErrOld)
		wantRefused(t, l, pub, 2, 0, api.Event{}, api.ErrGap)
		events, last[pub] = append(events, logged(pub, 1, uint64(i))), 1
		put(t, l, events[i])
	}
	wantErrno(t, "Sync", l.Sync(), api.OK)
	for _, one := range []*evlog.Log{l, open(t, d, 2*short)} {
		wantLog(t, one, has{safe: 9, events: events, seqs: last})
		if got, want := one.Pubs(), []uint32{0, 1, 127, 128, 300, 1 << 16, 1<<31 - 1, 1 << 31, math.MaxUint32}; !slices.Equal(got, want) {
			t.Errorf("Pubs = %v, want %v", got, want)
		}
	}
}

// More publishers than a gate has: the log has no bound of them.
func TestManyPublishers(t *testing.T) {
	d := newDisk(t, api.MaxDisk)
	l := open(t, d, 10000)
	last := seqs{}
	var events []api.Logged
	for i := range uint32(3 * api.MaxPubs) {
		pub := i * 2654435761 // in no order
		events, last[pub] = append(events, logged(pub, 1, 5)), 1
	}
	put(t, l, events...)
	wantErrno(t, "Sync", l.Sync(), api.OK)
	wantLog(t, l, has{safe: 768, events: events, seqs: last})
	wantLog(t, open(t, d, 1), has{safe: 768, events: events, seqs: last})
}

// wantNumbers holds what is answered to numbers of a publisher's that aren't the next one against their last number.
func wantNumbers(t *testing.T, l *evlog.Log, pub uint32, last uint64) {
	t.Helper()
	end := l.End()
	for _, seq := range []uint64{0, 1, 2, 3, 4, 5, last - 2, last - 1, last, last + 1, last + 2, last + 3, 1 << 63, math.MaxUint64 - 1, math.MaxUint64} {
		switch {
		case seq <= last:
			wantRefused(t, l, pub, seq, 0, api.Event{}, api.ErrOld)
		case seq != last+1:
			wantRefused(t, l, pub, seq, 0, api.Event{}, api.ErrGap)
		}
	}
	if got := l.Seq(pub); got != last || l.End() != end {
		t.Errorf("Seq(%d) = %d, want %d; the end is %d, was %d", pub, got, last, l.End(), end)
	}
}

func TestNumbersOfAPublisher(t *testing.T) {
	for _, noted := range []uint64{0, 1, 2, 3, 1 << 32, 1<<63 - 1, 1 << 63, math.MaxUint64 - 4, math.MaxUint64 - 3} {
		_, l := opened(t)
		l.Note(9, noted)
		put(t, l, logged(8, 1, 0))
		for seq := noted + 1; seq <= noted+2; seq++ {
			wantNumbers(t, l, 9, seq-1)
			put(t, l, logged(9, seq, 0))
		}
		wantNumbers(t, l, 9, noted+2)
		wantNumbers(t, l, 8, 1)
		wantNumbers(t, l, 7, 0)
	}
}

// Behind the greatest number of all there is none: all are old.
func TestTheGreatestNumberOfAPublisher(t *testing.T) {
	d, l := opened(t)
	l.Note(9, math.MaxUint64-1)
	wantNumbers(t, l, 9, math.MaxUint64-1)
	put(t, l, logged(9, math.MaxUint64, 5))
	for _, again := range []bool{false, true} {
		if again {
			l = open(t, d, 2*short)
		}
		for _, seq := range []uint64{0, 1, 2, 1 << 63, math.MaxUint64 - 1, math.MaxUint64} {
			wantRefused(t, l, 9, seq, 5, api.Event{}, api.ErrOld)
		}
		wantLog(t, l, has{safe: l.Safe(), events: []api.Logged{logged(9, math.MaxUint64, 5)}, seqs: seqs{9: math.MaxUint64}})
	}
}

func TestTimesNeverFall(t *testing.T) {
	_, l := opened(t)
	for i, c := range []struct{ now, at uint64 }{
		{0, 0}, {0, 0}, {5, 5}, {4, 5}, {5, 5}, {0, 5}, {6, 6}, {100, 100}, {99, 100}, {6, 100}, {101, 101},
		{api.MaxTime - 1, api.MaxTime - 1}, {101, api.MaxTime - 1}, {api.MaxTime, api.MaxTime}, {0, api.MaxTime}, {api.MaxTime, api.MaxTime},
	} {
		wantPut(t, l, c.now, logged(uint32(i%3), uint64(i/3+1), c.at))
	}
}

func TestTimesThatAreTooLate(t *testing.T) {
	_, l := opened(t)
	put(t, l, logged(1, 1, 5))
	for _, now := range []uint64{api.MaxTime + 1, api.MaxTime + 2, 2 * api.MaxTime, 1 << 63, math.MaxUint64} {
		wantRefused(t, l, 1, 2, now, api.Event{}, api.ErrArg)
	}
	wantLog(t, l, has{events: []api.Logged{logged(1, 1, 5)}, seqs: seqs{1: 1}})
	wantPut(t, l, 0, logged(1, 2, 5)) // the last time is as it was
	wantPut(t, l, api.MaxTime, logged(1, 3, api.MaxTime))
}

// P17.1: what is noted

func TestNote(t *testing.T) {
	d, l := opened(t)
	put(t, l, logged(1, 1, 0), logged(1, 2, 0), logged(1, 3, 0), logged(2, 1, 0))
	events := []api.Logged{logged(1, 1, 0), logged(1, 2, 0), logged(1, 3, 0), logged(2, 1, 0)}
	last := seqs{1: 3, 2: 1}
	for _, c := range []struct {
		pub       uint32
		seq, want uint64
	}{
		{1, 0, 3}, {1, 1, 3}, {1, 2, 3}, {1, 3, 3}, {1, 4, 4}, {1, 4, 4}, {1, 3, 4}, {1, 0, 4}, {1, 100, 100}, {1, 99, 100},
		{5, 1, 1}, {5, 0, 1}, {6, 7, 7}, {6, 6, 7}, {6, 8, 8}, {0, 1, 1}, {math.MaxUint32, math.MaxUint64, math.MaxUint64}, {math.MaxUint32, 1, math.MaxUint64}, {2, 1 << 63, 1 << 63},
	} {
		files := filesOf(d)
		l.Note(c.pub, c.seq)
		last[c.pub] = c.want
		wantLog(t, l, has{safe: 2, events: events, seqs: last})
		wantNumbers(t, l, c.pub, c.want)
		wantFiles(t, d, files)
	}
	put(t, l, logged(1, 101, 0), logged(6, 9, 0))
	last[1], last[6] = 101, 9
	wantLog(t, l, has{safe: 4, events: append(events, logged(1, 101, 0), logged(6, 9, 0)), seqs: last})
}

// A publisher of whom 0 was noted has no number.
func TestNoteOfNothing(t *testing.T) {
	_, l := opened(t)
	for _, pub := range []uint32{0, 5, math.MaxUint32} {
		l.Note(pub, 0)
		wantLog(t, l, has{})
		wantNumbers(t, l, pub, 0)
	}
	put(t, l, logged(5, 1, 0))
	l.Note(5, 0)
	wantLog(t, l, has{events: []api.Logged{logged(5, 1, 0)}, seqs: seqs{5: 1}})
}

func TestNoteTime(t *testing.T) {
	for _, c := range []struct {
		what  string
		noted []uint64
		now   uint64
		want  uint64
	}{
		{"nothing", nil, 0, 20},
		{"earlier", []uint64{19}, 0, 20},
		{"0", []uint64{0}, 5, 20},
		{"the same", []uint64{20}, 0, 20},
		{"later", []uint64{21}, 0, 21},
		{"later, and now is earlier than that", []uint64{25}, 24, 25},
		{"later, and now is the same", []uint64{25}, 25, 25},
		{"later, and now is later still", []uint64{25}, 26, 26},
		{"twice, rising", []uint64{25, 30}, 0, 30},
		{"twice, falling", []uint64{30, 25}, 0, 30},
		{"twice, behind earlier", []uint64{3, 30, 20, 4}, 29, 30},
		{"the greatest that now may be", []uint64{api.MaxTime}, 7, api.MaxTime},
		{"above that", []uint64{api.MaxTime + 1}, api.MaxTime, api.MaxTime + 1},
		{"the greatest", []uint64{math.MaxUint64}, 0, math.MaxUint64},
	} {
		d, l := opened(t)
		put(t, l, logged(1, 1, 20))
		files := filesOf(d)
		for _, at := range c.noted {
			l.NoteTime(at)
			wantLog(t, l, has{events: []api.Logged{logged(1, 1, 20)}, seqs: seqs{1: 1}})
			wantFiles(t, d, files)
		}
		wantPut(t, l, c.now, logged(1, 2, c.want))
		wantPut(t, l, 0, logged(2, 1, c.want))
		if t.Failed() {
			t.Fatal(c.what)
		}
	}
	_, l := opened(t)
	l.NoteTime(9)
	wantPut(t, l, 3, logged(1, 1, 9))
}

// What was noted is not in the log: opened again, it is forgotten.
func TestWhatWasNotedAndThenOpenedAgain(t *testing.T) {
	d, l := opened(t)
	l.Note(1, 5)
	l.Note(2, 1)
	l.Note(3, 9)
	l.NoteTime(50)
	l = open(t, d, 2*short)
	wantLog(t, l, has{})
	wantPut(t, l, 4, logged(1, 1, 4))
	l.Note(1, 5)
	l.Note(2, 1)
	l.NoteTime(50)
	wantPut(t, l, 4, logged(2, 2, 50)) // this one tells what was noted
	l.NoteTime(60)
	l.Note(2, 100)
	l = open(t, d, 2*short)
	wantLog(t, l, has{safe: 2, events: []api.Logged{logged(1, 1, 4), logged(2, 2, 50)}, seqs: seqs{1: 1, 2: 2}})
	l.Note(1, 1)
	l.Note(2, 1)
	wantTime(t, l, 50)
}

// P17.1: Sync, Trim, Base, End, Safe

// Two events a segment: the ones that are made safe as the next segment begins, and the ones that aren't.
func TestSafeAsSegmentsBegin(t *testing.T) {
	d, l := opened(t)
	var events []api.Logged
	for i := range uint64(7) {
		events = append(events, logged(4, i+1, i))
		put(t, l, events[i])
		wantLog(t, l, has{safe: i / 2 * 2, events: events, seqs: seqs{4: i + 1}})
	}
	wantErrno(t, "Sync", l.Sync(), api.OK)
	for _, one := range []*evlog.Log{l, open(t, d, 2*short)} {
		wantLog(t, one, has{safe: 7, events: events, seqs: seqs{4: 7}})
	}
	wantFiles(t, d, map[string]string{
		"ev.m": manifest(0, 2, 4, 6), "ev.0": frames(events[:2]...), "ev.2": frames(events[2:4]...), "ev.4": frames(events[4:6]...), "ev.6": frames(events[6]),
	})
}

// seven are events of three publishers, the first one of whom has none behind the number 1.
func seven() []api.Logged {
	return []api.Logged{logged(1, 1, 3), logged(1, 2, 4), logged(2, 1, 4), logged(3, 1, 5), logged(2, 2, 8), logged(3, 2, 8), logged(2, 3, 9)}
}

func TestTrimToEachNumber(t *testing.T) {
	for n, base := range map[uint64]uint64{0: 0, 1: 0, 2: 2, 3: 2, 4: 4, 5: 4, 6: 6, 7: 6, 8: 6, api.MaxIndex: 6, math.MaxUint64: 6} {
		d, l := opened(t)
		put(t, l, seven()...)
		want := has{base: base, safe: 6, events: seven()[base:], seqs: seqs{1: 2, 2: 3, 3: 2}}
		for range 2 {
			wantErrno(t, fmt.Sprintf("Trim(%d)", n), l.Trim(n), api.OK)
			wantLog(t, l, want)
		}
		for pub, last := range want.seqs {
			wantNumbers(t, l, pub, last) // behind Trim, too
		}

		// Opened again, the log has the numbers of the events that are there.
		want.seqs, want.safe = seqs{}, 7
		for _, e := range want.events {
			want.seqs[e.Pub] = e.Seq
		}
		again := open(t, d, 2*short)
		wantLog(t, again, want)
		for pub := range uint32(4) {
			wantNumbers(t, again, pub, want.seqs[pub])
		}
		if base > 0 { // the first publisher begins anew, or goes on where it is noted
			wantPut(t, again, 0, logged(1, 1, 9))
			again = open(t, d, 2*short)
			wantPut(t, again, 0, logged(1, 2, 9))
			l = open(t, d, 2*short)
			l.Note(2, 3)
			wantPut(t, l, 0, logged(2, 4, 9))
		}
	}
}

// A log that is trimmed of all its events, since its last segment was begun without one: opened again, it has no number and no time.
func TestAllEventsTrimmed(t *testing.T) {
	const room = 200
	d := newDisk(t, room)
	l := open(t, d, 2*short)
	put(t, l, logged(1, 1, 30), logged(2, 1, 40))
	fill := make([]byte, room-d.Used()-len(manifest(0, 2)))
	wantErrno(t, "Append of the rest", d.Append("rest", fill), api.OK)
	wantRefused(t, l, 1, 2, 50, rich()[6], api.ErrFull)
	wantErrno(t, "Delete of the rest", d.Delete("rest"), api.OK)
	wantErrno(t, "Trim", l.Trim(2), api.OK)
	wantLog(t, l, has{base: 2, safe: 2, seqs: seqs{1: 1, 2: 1}})
	wantFiles(t, d, map[string]string{"ev.m": manifest(2)})

	again := open(t, d, 2*short)
	wantLog(t, again, has{base: 2, safe: 2})
	wantErrno(t, "Sync of nothing", again.Sync(), api.OK)

	// The one that wasn't opened again knows both.
	wantPut(t, l, 0, logged(1, 2, 40))
	d.Delete("ev.2")
	again = open(t, d, 2*short)
	again.Note(2, 7)
	wantPut(t, again, 0, logged(1, 1, 0))
	wantPut(t, again, 1, logged(2, 8, 1))
	wantLog(t, again, has{base: 2, safe: 2, events: []api.Logged{logged(1, 1, 0), logged(2, 8, 1)}, seqs: seqs{1: 1, 2: 8}})
}

// The last time stays behind Trim, and behind opening again.
func TestTheLastTimeBehindTrim(t *testing.T) {
	for _, n := range []uint64{0, 2, 6, 100} {
		d, l := opened(t)
		put(t, l, seven()...)
		wantErrno(t, "Trim", l.Trim(n), api.OK)
		wantErrno(t, "Sync", l.Sync(), api.OK)
		wantTime(t, open(t, d, 2*short), 9)
		l.NoteTime(12)
		wantErrno(t, "Trim", l.Trim(n), api.OK)
		_, errno := l.Publish(77, 1, 10, api.Event{})
		wantErrno(t, "Publish", errno, api.OK)
		if got, _ := l.Get(l.End() - 1); got.At != 12 {
			t.Errorf("behind Trim(%d) an event is of %d, want 12", n, got.At)
		}
	}
}

func TestGetBelowAndAboveWhatIsThere(t *testing.T) {
	d, l := opened(t)
	put(t, l, seven()...)
	wantErrno(t, "Trim", l.Trim(4), api.OK)
	for _, one := range []*evlog.Log{l, open(t, d, 2*short)} {
		for _, n := range []uint64{0, 1, 2, 3, 7, 8, api.MaxIndex, math.MaxUint64} {
			wantNoEvent(t, one, n, api.ErrNone)
		}
		for n := uint64(4); n < 7; n++ {
			wantEvent(t, one, n, seven()[n])
		}
	}
}

// P17.1: a nil log

func TestANilLog(t *testing.T) {
	var l *evlog.Log
	for range 2 {
		l.Note(1, 5)
		l.Note(1, 0)
		l.NoteTime(7)
		wantRefused(t, l, 1, 1, 5, api.Event{}, api.ErrArg)
		wantRefused(t, l, 1, 0, 5, api.Event{}, api.ErrArg)
		wantRefused(t, l, 1, 9, api.MaxTime+1, wrong()[0], api.ErrArg)
		wantErrno(t, "Sync", l.Sync(), api.ErrArg)
		for _, n := range []uint64{0, 1, math.MaxUint64} {
			wantErrno(t, "Trim", l.Trim(n), api.ErrArg)
			wantNoEvent(t, l, n, api.ErrArg)
			if got := l.Seq(uint32(n)); got != 0 {
				t.Errorf("Seq = %d", got)
			}
		}
		if l.Base() != 0 || l.End() != 0 || l.Safe() != 0 || len(l.Pubs()) != 0 {
			t.Error("a nil log has something")
		}
	}
}

// R3, R5

func TestWhatIsHandedInStaysAndIsNotKept(t *testing.T) {
	_, l := opened(t)
	of := func(e api.Event) api.Logged { return api.Logged{Pub: 1, Seq: 1, At: 2, Event: e} }
	whole := []api.Value{{Kind: api.Text, Text: "a"}, {Kind: api.Whole, Int: 5}, {Kind: api.Real, Real: 2.5}, {Kind: api.Text, Text: "behind"}}
	was := slices.Clone(whole)
	put(t, l, of(api.Event{Topic: 3, Fields: whole[:3]}))
	if !slices.Equal(whole, was) {
		t.Errorf("Publish wrote into what was handed in: %v", whole)
	}
	for i := range whole {
		whole[i] = api.Value{Kind: api.Text, Text: "x"}
	}
	wantEvent(t, l, 0, of(api.Event{Topic: 3, Fields: was[:3]}))
}

func TestWhatIsAnsweredHasMemoryOfItsOwn(t *testing.T) {
	for _, again := range []bool{false, true} {
		d, l := opened(t)
		e := logged(9, 1, 2)
		e.Event.Fields = []api.Value{{Kind: api.Text, Text: "a"}, {Kind: api.Whole, Int: 5}}
		put(t, l, e, logged(4, 1, 3), logged(6, 1, 3))
		want := has{safe: l.Safe(), events: []api.Logged{e, logged(4, 1, 3), logged(6, 1, 3)}, seqs: seqs{4: 1, 6: 1, 9: 1}}
		if again {
			l, want.safe = open(t, d, 2*short), 3
		}
		for range 2 {
			one, _ := l.Get(0)
			two, _ := l.Get(0)
			pubs, others := l.Pubs(), l.Pubs()
			one.Event.Fields[0], pubs[0] = api.Value{}, 99
			_ = append(one.Event.Fields[:1], api.Value{}, api.Value{})
			_ = append(pubs[:1], 77, 78)
			if !same(two, e) || !slices.Equal(others, []uint32{4, 6, 9}) {
				t.Errorf("two answers share memory: %v, %v", two, others)
			}
			wantLog(t, l, want)
		}
	}
}

// Two logs of two disks know nothing of one another.
func TestTwoLogs(t *testing.T) {
	_, a := opened(t)
	_, b := opened(t)
	put(t, a, logged(1, 1, 50), logged(1, 2, 50))
	a.Note(2, 9)
	a.NoteTime(80)
	wantLog(t, b, has{})
	wantPut(t, b, 5, logged(1, 1, 5))
	wantLog(t, a, has{events: []api.Logged{logged(1, 1, 50), logged(1, 2, 50)}, seqs: seqs{1: 2, 2: 9}})
}
