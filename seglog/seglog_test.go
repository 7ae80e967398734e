package seglog_test

import (
	"bytes"
	"encoding/binary"
	"fmt"
	"hash/crc32"
	"math"
	"slices"
	"strings"
	"testing"

	"equerry/api"
	"equerry/disk"
	"equerry/seglog"
)

const headSize = 8 // bytes of a frame ahead of its record

// frame is a record's frame, by the library's own sum.
func frame(record string) []byte {
	b := binary.BigEndian.AppendUint32(nil, uint32(len(record)))
	sum := crc32.ChecksumIEEE(append(slices.Clone(b), record...))
	return append(binary.BigEndian.AppendUint32(b, sum), record...)
}

func frames(records ...string) []byte {
	var b []byte
	for _, record := range records {
		b = append(b, frame(record)...)
	}
	return b
}

// numbers are the writings of numbers one behind the other, by the library's own writing.
func numbers(all ...uint64) string {
	var b []byte
	for _, n := range all {
		b = binary.AppendUvarint(b, n)
	}
	return string(b)
}

// manifest is a manifest's file that tells segments.
func manifest(starts ...uint64) []byte {
	return frame(numbers(append([]uint64{uint64(len(starts))}, starts...)...))
}

func newDisk(t *testing.T, room int) *disk.Disk {
	t.Helper()
	d, errno := disk.New(room)
	if errno != api.OK {
		t.Fatalf("New(%d) = %v", room, errno)
	}
	return d
}

func open(t *testing.T, d *disk.Disk, most int) *seglog.Log {
	t.Helper()
	l, errno := seglog.Open(d, "log", most)
	if l == nil || errno != api.OK {
		t.Fatalf("Open = %v, %v", l, errno)
	}
	return l
}

// put appends each record.
func put(t *testing.T, l *seglog.Log, records ...string) {
	t.Helper()
	for _, record := range records {
		wantErrno(t, "Append", l.Append([]byte(record)), api.OK)
	}
}

// letters are records of one letter each: their frames have nine bytes.
func letters(n int) []string {
	var all []string
	for i := range n {
		all = append(all, string(rune('a'+i)))
	}
	return all
}

// lettersIn is a disk with a log of n letters, two a segment, whose files are log.0, log.2 and so on.
func lettersIn(t *testing.T, n int) (*disk.Disk, *seglog.Log) {
	t.Helper()
	d := newDisk(t, api.MaxDisk)
	l := open(t, d, 18)
	put(t, l, letters(n)...)
	return d, l
}

func wantErrno(t *testing.T, what string, got, want api.Errno) {
	t.Helper()
	if got != want {
		t.Errorf("%s = %v, want %v", what, got, want)
	}
}

// has is what a log is to tell.
type has struct {
	base, safe uint64
	records    []string
	segments   []uint64
}

// wantLog holds all that a log tells against what is wanted.
func wantLog(t *testing.T, l *seglog.Log, want has) {
	t.Helper()
	end := want.base + uint64(len(want.records))
	if l.Base() != want.base || l.Safe() != want.safe || l.End() != end {
		t.Errorf("base %d, safe %d, end %d, want %d, %d, %d", l.Base(), l.Safe(), l.End(), want.base, want.safe, end)
	}
	if got := l.Segments(); !slices.Equal(got, want.segments) {
		t.Errorf("Segments = %v, want %v", got, want.segments)
	}
	if got := texts(l.All()); !slices.Equal(got, want.records) {
		t.Errorf("All = %q, want %q", got, want.records)
	}
	for i, record := range want.records {
		if got, errno := l.Get(want.base + uint64(i)); string(got) != record || errno != api.OK {
			t.Errorf("Get(%d) = %q, %v, want %q", want.base+uint64(i), got, errno, record)
		}
	}
	for _, n := range []uint64{want.base - 1, 0, end, end + 1, 1 << 63, math.MaxUint64} {
		if n >= want.base && n < end {
			continue
		}
		if got, errno := l.Get(n); got != nil || errno != api.ErrNone {
			t.Errorf("Get(%d) = %q, %v, want ErrNone", n, got, errno)
		}
	}
}

func texts(records [][]byte) []string {
	var all []string
	for _, record := range records {
		all = append(all, string(record))
	}
	return all
}

// wantFiles holds a disk's files, by name, and all that it has, against what is wanted.
func wantFiles(t *testing.T, d *disk.Disk, want map[string][]byte) {
	t.Helper()
	for _, name := range d.List() {
		if _, there := want[name]; !there {
			t.Errorf("there is %q", name)
		}
	}
	for name, b := range want {
		if got, errno := d.Read(name); errno != api.OK || !bytes.Equal(got, b) {
			t.Errorf("Read(%q) = %q, %v, want %q", name, got, errno, b)
		}
	}
}

func wantNames(t *testing.T, d *disk.Disk, names ...string) {
	t.Helper()
	if got := d.List(); !slices.Equal(got, names) {
		t.Errorf("List = %q, want %q", got, names)
	}
}

// P9.1: Append, and what is told

func TestRecordsAreNumberedInOrder(t *testing.T) {
	d := newDisk(t, 1000)
	l := open(t, d, api.MaxDisk)
	wantLog(t, l, has{segments: []uint64{0}})
	wantFiles(t, d, map[string][]byte{"log.m": manifest(0)})
	put(t, l, "a", "", "a")
	wantLog(t, l, has{records: []string{"a", "", "a"}, segments: []uint64{0}})
	wantErrno(t, "Sync", l.Sync(), api.OK)
	wantLog(t, l, has{safe: 3, records: []string{"a", "", "a"}, segments: []uint64{0}})
	wantFiles(t, d, map[string][]byte{"log.m": manifest(0), "log.0": frames("a", "", "a")})
	put(t, l, "bc")
	wantLog(t, l, has{safe: 3, records: []string{"a", "", "a", "bc"}, segments: []uint64{0}})
	if got := d.Safe("log.0"); got != 26 {
		t.Errorf("%d bytes are safe, want 26", got)
	}
}

func TestTheChaptersExample(t *testing.T) {
	d := newDisk(t, 1000)
	l := open(t, d, 1000)
	put(t, l, "a", "b")
	wantErrno(t, "Sync", l.Sync(), api.OK)
	put(t, l, "c")
	d.Crash()
	d.Wake(nil)
	wantLog(t, open(t, d, 1000), has{safe: 2, records: []string{"a", "b"}, segments: []uint64{0}})
}

func TestARecordOfAsManyBytesAsMayBeAndOneMore(t *testing.T) {
	d := newDisk(t, api.MaxDisk)
	l := open(t, d, 9)
	long := strings.Repeat("x", api.MaxRecord)
	put(t, l, long, "b")
	for _, more := range []int{1, 2, api.MaxRecord} {
		wantErrno(t, "Append of too much", l.Append(make([]byte, api.MaxRecord+more)), api.ErrLong)
	}
	wantLog(t, l, has{safe: 1, records: []string{long, "b"}, segments: []uint64{0, 1}})
	wantNames(t, d, "log.0", "log.1", "log.m")
	wantLog(t, open(t, d, 9), has{safe: 2, records: []string{long, "b"}, segments: []uint64{0, 1}})
}

// What is too long does nothing: no act, no segment, not even the disk is asked.
func TestTooMuchIsRefusedAheadOfAllElse(t *testing.T) {
	d, l := lettersIn(t, 2)
	d.Fuse(0, 0)
	wantErrno(t, "Append of too much", l.Append(make([]byte, api.MaxRecord+1)), api.ErrLong)
	if !d.Up() {
		t.Error("an act was done")
	}
	wantLog(t, l, has{records: letters(2), segments: []uint64{0}})
	d.Crash()
	wantErrno(t, "Append of too much while the disk is down", l.Append(make([]byte, api.MaxRecord+1)), api.ErrLong)
	d.Wake(nil)
	wantErrno(t, "Append to a log that met no ErrDown", l.Append(nil), api.OK)
}

// A last segment of one byte less than most, of just most, and of more: where the third record goes.
func TestASegmentBeginsBehindOneThatHasMost(t *testing.T) {
	const two = 2*headSize + 5 // bytes of the first two
	for most, want := range map[int][]uint64{
		1: {0, 1, 2}, headSize + 2: {0, 1, 2}, headSize + 3: {0, 1}, headSize + 4: {0, 2},
		two - 1: {0, 2}, two: {0, 2}, two + 1: {0}, api.MaxDisk: {0},
	} {
		d := newDisk(t, 1000)
		l := open(t, d, most)
		records := []string{"abc", "de", "f"}
		put(t, l, records...)
		wantLog(t, l, has{safe: want[len(want)-1], records: records, segments: want})
		wantFiles(t, d, segmentFiles(want, records))
		wantLog(t, open(t, d, most), has{safe: 3, records: records, segments: want})
	}
}

// segmentFiles are the files of a log from 0 on.
func segmentFiles(starts []uint64, records []string) map[string][]byte {
	files := map[string][]byte{"log.m": manifest(starts...)}
	for i, start := range starts {
		end := len(records)
		if i+1 < len(starts) {
			end = int(starts[i+1])
		}
		files[fmt.Sprintf("log.%d", start)] = frames(records[start:end]...)
	}
	return files
}

// How much a segment has is known behind opening, too, and another most holds from then on.
func TestMostHoldsBehindOpening(t *testing.T) {
	d := newDisk(t, 1000)
	put(t, open(t, d, 100), "a", "b", "c")
	for most, want := range map[int]int{26: 2, 27: 2, 28: 1, 1: 2} {
		copied := copyOf(t, d)
		l := open(t, copied, most)
		put(t, l, "d")
		if got := len(l.Segments()); got != want {
			t.Errorf("most %d: %d segments, want %d", most, got, want)
		}
	}
}

// copyOf is a disk with the same files, as much of each safe.
func copyOf(t *testing.T, d *disk.Disk) *disk.Disk {
	t.Helper()
	copied := newDisk(t, api.MaxDisk)
	for _, name := range d.List() {
		b, _ := d.Read(name)
		safe := d.Safe(name)
		copied.Append(name, b[:safe])
		if safe > 0 {
			copied.Sync(name)
		}
		copied.Append(name, b[safe:])
	}
	return copied
}

func TestASegmentIsMadeSafeAsTheNextOneBegins(t *testing.T) {
	d, l := lettersIn(t, 3)
	wantLog(t, l, has{safe: 2, records: letters(3), segments: []uint64{0, 2}})
	for name, want := range map[string]int{"log.0": 18, "log.2": 0, "log.m": len(manifest(0, 2))} {
		if got := d.Safe(name); got != want {
			t.Errorf("%d bytes of %s are safe, want %d", got, name, want)
		}
	}
	wantNames(t, d, "log.0", "log.2", "log.m")
}

func TestManySegments(t *testing.T) {
	d := newDisk(t, api.MaxDisk)
	l := open(t, d, 1)
	var records []string
	var starts []uint64
	for i := range 200 {
		records, starts = append(records, fmt.Sprint(i)), append(starts, uint64(i))
	}
	put(t, l, records...)
	wantLog(t, l, has{safe: 199, records: records, segments: starts})
	wantFiles(t, d, segmentFiles(starts, records))
	wantLog(t, open(t, d, 1), has{safe: 200, records: records, segments: starts})
}

func TestTwoLogsOfOneDisk(t *testing.T) {
	d := newDisk(t, 1000)
	names := []string{"a", "aa", "abcdefgh", "b"}
	for i, name := range names {
		l, errno := seglog.Open(d, name, 9)
		wantErrno(t, "Open", errno, api.OK)
		put(t, l, letters(i+1)...)
	}
	for i, name := range names {
		l, errno := seglog.Open(d, name, 9)
		wantErrno(t, "Open again", errno, api.OK)
		if got := texts(l.All()); !slices.Equal(got, letters(i+1)) {
			t.Errorf("%s has %q", name, got)
		}
	}
}

// P9.1: Sync

func TestSyncWhereNothingIsToBeMadeSafe(t *testing.T) {
	d, l := lettersIn(t, 0)
	idle := func(what string) {
		t.Helper()
		d.Fuse(0, 0)
		wantErrno(t, "Sync "+what, l.Sync(), api.OK)
		if !d.Up() {
			t.Fatalf("Sync %s does an act", what)
		}
		d.Fuse(math.MaxInt, 0)
	}
	idle("of a new log")
	put(t, l, "a")
	wantErrno(t, "Sync", l.Sync(), api.OK)
	idle("again")
	put(t, l, "b", "c")
	wantErrno(t, "Sync", l.Sync(), api.OK)
	wantErrno(t, "Trim", l.Trim(3), api.OK)
	idle("behind Trim")
	l = open(t, d, 18)
	idle("behind Open")
	d.Crash()
	wantErrno(t, "Sync while the disk is down, of nothing", l.Sync(), api.OK)
	d.Wake(nil)
	wantErrno(t, "Append to a log that met no ErrDown", l.Append(nil), api.OK)
}

// P9.1: Trim

// Two letters a segment, from 0 on; the last segment, of one letter, begins with 6.
func TestTrimToEachNumber(t *testing.T) {
	for n, base := range map[uint64]uint64{
		0: 0, 1: 0, 2: 2, 3: 2, 4: 4, 5: 4, 6: 6, 7: 6, 8: 6, 1 << 40: 6, 1 << 63: 6, math.MaxUint64: 6,
	} {
		d, l := lettersIn(t, 7)
		want := has{base: base, safe: 6, records: letters(7)[base:]}
		files := map[string][]byte{}
		for start := base; start < 7; start += 2 {
			want.segments = append(want.segments, start)
			files[fmt.Sprintf("log.%d", start)] = frames(letters(7)[start:min(start+2, 7)]...)
		}
		files["log.m"] = manifest(want.segments...)
		for range 2 {
			wantErrno(t, fmt.Sprintf("Trim(%d)", n), l.Trim(n), api.OK)
			wantLog(t, l, want)
			wantFiles(t, d, files)
		}
		put(t, l, "h", "i")
		want.records, want.segments, want.safe = append(want.records, "h", "i"), append(want.segments, 8), 8
		wantLog(t, l, want)
		want.safe = 9
		wantLog(t, open(t, d, 18), want)
	}
}

func TestTrimOfNothingDoesNothing(t *testing.T) {
	for n, l := range map[uint64]func(*testing.T) (*disk.Disk, *seglog.Log){
		0:              func(t *testing.T) (*disk.Disk, *seglog.Log) { return lettersIn(t, 7) },
		1:              func(t *testing.T) (*disk.Disk, *seglog.Log) { return lettersIn(t, 7) },
		2:              func(t *testing.T) (*disk.Disk, *seglog.Log) { return lettersIn(t, 2) }, // the last segment stays
		math.MaxUint64: func(t *testing.T) (*disk.Disk, *seglog.Log) { return lettersIn(t, 0) },
	} {
		d, l := l(t)
		d.Fuse(0, 0)
		wantErrno(t, fmt.Sprintf("Trim(%d)", n), l.Trim(n), api.OK)
		if !d.Up() {
			t.Errorf("Trim(%d) does an act", n)
		}
		d.Crash()
		wantErrno(t, fmt.Sprintf("Trim(%d) while the disk is down", n), l.Trim(n), api.OK)
		d.Wake([]int{math.MaxInt})
		wantErrno(t, "Append to a log that met no ErrDown", l.Append(nil), api.OK)
	}
}

func TestTrimStepByStep(t *testing.T) {
	d, l := lettersIn(t, 12)
	for n := range uint64(14) {
		wantErrno(t, "Trim", l.Trim(n), api.OK)
		base := min(n/2*2, 10)
		if l.Base() != base || l.End() != 12 || len(l.Segments()) != int(12-base)/2 {
			t.Errorf("Trim(%d): base %d, end %d, segments %v", n, l.Base(), l.End(), l.Segments())
		}
	}
	wantErrno(t, "Trim of less than before", l.Trim(3), api.OK)
	wantLog(t, l, has{base: 10, safe: 10, records: letters(12)[10:], segments: []uint64{10}})
	wantNames(t, d, "log.10", "log.m")
}

func TestTrimWhereFilesAreGoneAlready(t *testing.T) {
	for _, gone := range [][]string{{"log.0"}, {"log.2"}, {"log.0", "log.2", "log.4"}} {
		d, l := lettersIn(t, 7)
		for _, name := range gone {
			wantErrno(t, "Delete", d.Delete(name), api.OK)
		}
		wantErrno(t, "Trim", l.Trim(6), api.OK)
		wantLog(t, l, has{base: 6, safe: 6, records: letters(7)[6:], segments: []uint64{6}})
		wantNames(t, d, "log.6", "log.m")
	}
}

// Where names rise otherwise than numbers, files go by rising numbers: of 8 to 10, log.8 goes first, which a fall behind one Delete shows.
func TestTrimDeletesByRisingNumbers(t *testing.T) {
	d := newDisk(t, 1000)
	l := open(t, d, 1)
	put(t, l, letters(12)...)
	wantErrno(t, "Trim", l.Trim(8), api.OK)
	d.Fuse(4+1, 0)
	wantErrno(t, "Trim", l.Trim(11), api.ErrDown)
	d.Wake(nil)
	wantNames(t, d, "log.10", "log.11", "log.9", "log.m")
}

// P9.1: a nil log

func TestANilLog(t *testing.T) {
	var l *seglog.Log
	for range 2 {
		wantErrno(t, "Append", l.Append([]byte("a")), api.ErrArg)
		wantErrno(t, "Append of nothing", l.Append(nil), api.ErrArg)
		wantErrno(t, "Append of too much", l.Append(make([]byte, api.MaxRecord+1)), api.ErrArg)
		wantErrno(t, "Sync", l.Sync(), api.ErrArg)
		for _, n := range []uint64{0, 1, math.MaxUint64} {
			wantErrno(t, "Trim", l.Trim(n), api.ErrArg)
			if b, errno := l.Get(n); b != nil || errno != api.ErrArg {
				t.Errorf("Get = %q, %v", b, errno)
			}
		}
		if l.Base() != 0 || l.End() != 0 || l.Safe() != 0 || len(l.All()) != 0 || len(l.Segments()) != 0 {
			t.Error("a nil log has something")
		}
	}
}

// R3

func TestWhatIsHandedInStaysAndIsNotKept(t *testing.T) {
	d := newDisk(t, 1000)
	l := open(t, d, 1000)
	whole := []byte("abcdef")
	wantErrno(t, "Append", l.Append(whole[1:3]), api.OK)
	if string(whole) != "abcdef" {
		t.Errorf("Append wrote into what was handed in: %q", whole)
	}
	for i := range whole {
		whole[i] = 'x'
	}
	put(t, l, "g")
	wantLog(t, l, has{records: []string{"bc", "g"}, segments: []uint64{0}})
	wantFiles(t, d, map[string][]byte{"log.m": manifest(0), "log.0": frames("bc", "g")})
}

func TestWhatIsAnsweredHasBytesOfItsOwn(t *testing.T) {
	for _, again := range []bool{false, true} {
		d, l := lettersIn(t, 5)
		if again {
			l = open(t, d, 18)
		}
		want := has{safe: l.Safe(), records: letters(5), segments: []uint64{0, 2, 4}}
		for range 2 {
			one, _ := l.Get(1)
			two, _ := l.Get(1)
			all, more := l.All(), l.All()
			starts, others := l.Segments(), l.Segments()
			one[0], all[1][0], starts[1] = 'x', 'y', 99
			if string(two) != "b" || string(more[1]) != "b" || others[1] != 2 {
				t.Error("two answers share bytes")
			}
			all[2], all[0] = nil, append(all[0], "junk"...)
			_ = append(one, "junk"...)
			_ = append(starts[:1], 77, 78)
			wantLog(t, l, want)
		}
		put(t, l, "f", "g")
		want.records, want.segments, want.safe = letters(7), []uint64{0, 2, 4, 6}, 6
		wantLog(t, l, want)
		wantFiles(t, d, segmentFiles(want.segments, want.records))
	}
}
