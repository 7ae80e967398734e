package seglog_test

import (
	"bytes"
	"fmt"
	"math"
	"strings"
	"testing"

	"equerry/api"
	"equerry/disk"
	"equerry/seglog"
)

// P9.1: opening

// laid is a disk with files, all of them safe.
func laid(t *testing.T, files map[string][]byte) *disk.Disk {
	t.Helper()
	d := loose(t, files)
	for name := range files {
		wantErrno(t, "Sync of "+name, d.Sync(name), api.OK)
	}
	return d
}

// loose is a disk with files of which nothing is safe.
func loose(t *testing.T, files map[string][]byte) *disk.Disk {
	t.Helper()
	d := newDisk(t, api.MaxDisk)
	for name, b := range files {
		wantErrno(t, "Append to "+name, d.Append(name, b), api.OK)
	}
	return d
}

func wantRefused(t *testing.T, d *disk.Disk, name string, most int, want api.Errno) {
	t.Helper()
	if l, errno := seglog.Open(d, name, most); l != nil || errno != want {
		t.Errorf("Open(%q, %d) = %v, %v, want %v", name, most, l, errno, want)
	}
}

func TestNames(t *testing.T) {
	for _, name := range []string{"a", "z", "ab", "log", "m", "t", "abcdefgh", "zzzzzzzz"} {
		d := newDisk(t, 1000)
		l, errno := seglog.Open(d, name, 9)
		if l == nil || errno != api.OK {
			t.Errorf("Open(%q) = %v", name, errno)
			continue
		}
		put(t, l, "a", "b")
		wantNames(t, d, name+".0", name+".1", name+".m")
	}
	no := []string{
		"", "abcdefghi", strings.Repeat("a", 32), strings.Repeat("a", 1<<16),
		"A", "Log", "loG", "lo1", "0", "9", "a.", ".", ".a", "a.m", "a b", " ", "a\x00", "a\xff", "\xe9", "a`", "{", "a{", "`",
		"é", "aé", "ß", "ａ", "\u0430", "aaaaaaaé",
	}
	for _, name := range no {
		d := newDisk(t, 1000)
		d.Fuse(0, 0)
		wantRefused(t, d, name, 9, api.ErrArg)
		if !d.Up() {
			t.Errorf("Open(%q) does an act", name)
		}
	}
}

func TestMosts(t *testing.T) {
	for _, most := range []int{1, 2, api.MaxDisk - 1, api.MaxDisk} {
		open(t, newDisk(t, 1000), most)
	}
	for _, most := range []int{0, -1, math.MinInt, api.MaxDisk + 1, 2 * api.MaxDisk, math.MaxInt32, math.MaxInt} {
		d := newDisk(t, 1000)
		wantRefused(t, d, "log", most, api.ErrArg)
		wantNames(t, d)
	}
}

func TestOpeningWhereThereIsNoDisk(t *testing.T) {
	wantRefused(t, nil, "log", 9, api.ErrDown)
	wantRefused(t, nil, "Log", 9, api.ErrArg)
	wantRefused(t, nil, "log", 0, api.ErrArg)
	zero := newDisk(t, 0)
	wantRefused(t, zero, "log", 9, api.ErrFull)
	wantNames(t, zero)
	down, _ := lettersIn(t, 3)
	down.Crash()
	wantRefused(t, down, "log", 9, api.ErrDown)
	wantRefused(t, down, "log", api.MaxDisk+1, api.ErrArg)
	wantRefused(t, down, "logs!", 9, api.ErrArg)
	wantRefused(t, down, "log", 9, api.ErrDown)
	wantNames(t, down, "log.0", "log.2", "log.m")
}

func TestOpeningWithoutAManifest(t *testing.T) {
	d := newDisk(t, 1000)
	wantLog(t, open(t, d, 9), has{segments: []uint64{0}})
	wantFiles(t, d, map[string][]byte{"log.m": manifest(0)})
	if d.Safe("log.m") != len(manifest(0)) {
		t.Error("the manifest isn't safe")
	}
	wantLog(t, open(t, d, 9), has{segments: []uint64{0}})

	// A file of the segment 0 that was there is the segment 0, others aren't told.
	d = laid(t, map[string][]byte{"log.0": frames("a", "b"), "log.2": frames("c"), "log.t": manifest(0, 2), "lo.m": manifest(0, 2)})
	wantLog(t, open(t, d, 9), has{safe: 2, records: letters(2), segments: []uint64{0}})
	wantFiles(t, d, map[string][]byte{"log.0": frames("a", "b"), "log.m": manifest(0), "lo.m": manifest(0, 2)})
}

func TestOpeningWithADraftThatWasLeft(t *testing.T) {
	for _, left := range [][]byte{nil, []byte("junk"), manifest(0), manifest(7), manifest(0)[:3], bytes.Repeat([]byte{0}, 100)} {
		for _, d := range []*disk.Disk{
			laid(t, map[string][]byte{"log.t": left}),
			loose(t, map[string][]byte{"log.t": left}),
			laid(t, map[string][]byte{"log.t": left, "log.m": manifest(0)}),
		} {
			l := open(t, d, 9)
			wantFiles(t, d, map[string][]byte{"log.m": manifest(0)})
			put(t, l, "a", "b")
			wantFiles(t, d, segmentFiles([]uint64{0, 1}, letters(2)))
			wantLog(t, open(t, d, 9), has{safe: 2, records: letters(2), segments: []uint64{0, 1}})
		}
	}
}

// notManifests are bytes that are no manifest, by what is wrong with them.
func notManifests() map[string][]byte {
	whole := manifest(0, 2)
	spoilt := bytes.Clone(whole)
	spoilt[len(spoilt)-1] ^= 1
	many := numbers(2, 0, 1)
	return map[string][]byte{
		"no bytes":                  {},
		"junk":                      []byte("junk"),
		"more junk":                 []byte("junk that is longer than a frame"),
		"the head alone":            whole[:headSize],
		"a byte less":               whole[:len(whole)-1],
		"a byte more":               append(bytes.Clone(whole), 0),
		"two records":               append(bytes.Clone(whole), whole...),
		"a spoilt sum":              spoilt,
		"a record without bytes":    frame(""),
		"a record without a frame":  []byte(many),
		"no segment":                manifest(),
		"no segment, and a number":  frame(numbers(0, 0)),
		"a segment, and no number":  frame(numbers(1)),
		"two, and no number":        frame(numbers(2)),
		"a number less":             frame(numbers(3, 0, 2)),
		"a number more":             frame(numbers(1, 0, 2)),
		"a byte behind the numbers": frame(numbers(1, 0) + "\x00"),
		"huge counts":               frame(numbers(math.MaxUint64, 0)),
		"great counts":              frame(numbers(1<<63, 0, 1, 2)),
		"a count of 2^64":           frame("\xff\xff\xff\xff\xff\xff\xff\xff\xff\x02\x00"),
		"a number of 2^64":          frame("\x01\xff\xff\xff\xff\xff\xff\xff\xff\xff\x02"),
		"a long count":              frame("\x81\x00\x00"),
		"a long number":             frame("\x01\x80\x00"),
		"half a number":             frame("\x01\x80"),
		"half a count":              frame("\x81"),
		"the same twice":            manifest(0, 0),
		"the same twice behind":     manifest(0, 2, 2),
		"falling":                   manifest(2, 0),
		"falling behind":            manifest(0, 2, 1),
		"falling from the greatest": manifest(0, math.MaxUint64, 1),
	}
}

// The draft goes ahead of the manifest's being read, strays don't.
func TestOpeningWithWhatIsNoManifest(t *testing.T) {
	for what, b := range notManifests() {
		files := map[string][]byte{"log.m": b, "log.0": frames("a", "b"), "log.1": nil, "log.2": frames("c"), "log.7": []byte("a stray")}
		d := laid(t, files)
		d.Append("log.t", []byte("a draft"))
		l, errno := seglog.Open(d, "log", 9)
		if l != nil || errno != api.ErrForm {
			t.Errorf("%s: Open = %v, %v", what, l, errno)
		}
		wantFiles(t, d, files)
	}
	d := laid(t, map[string][]byte{"log.m": manifest(0, 2), "log.0": frames("a", "b"), "log.2": frames("c")})
	wantLog(t, open(t, d, 9), has{safe: 3, records: letters(3), segments: []uint64{0, 2}})
}

func TestSegmentsThatHaveNoFile(t *testing.T) {
	for _, start := range []uint64{0, 1, 127, 128, 300, 1 << 32, 1<<64 - 2, 1<<64 - 1} {
		d := laid(t, map[string][]byte{"log.m": manifest(start)})
		l := open(t, d, 9)
		wantLog(t, l, has{base: start, safe: start, segments: []uint64{start}})
		wantNames(t, d, "log.m")
		wantErrno(t, "Sync", l.Sync(), api.OK)
		wantErrno(t, "Trim", l.Trim(math.MaxUint64), api.OK)
		wantNames(t, d, "log.m")
	}
	d := laid(t, map[string][]byte{"log.m": manifest(5, 7), "log.5": frames("a", "b")})
	l := open(t, d, 9)
	wantLog(t, l, has{base: 5, safe: 7, records: letters(2), segments: []uint64{5, 7}})
	put(t, l, "c")
	wantFiles(t, d, map[string][]byte{"log.m": manifest(5, 7), "log.5": frames("a", "b"), "log.7": frames("c")})
	for _, files := range []map[string][]byte{
		{"log.m": manifest(5, 7)},
		{"log.m": manifest(5, 7), "log.7": frames("a")},
		{"log.m": manifest(5, 7), "log.5": nil},
		{"log.m": manifest(5, 7, 8), "log.5": frames("a", "b")},
	} {
		wantRefused(t, laid(t, files), "log", 9, api.ErrForm)
	}
}

func TestFilesThatGoAndFilesThatStay(t *testing.T) {
	go1 := []string{
		"log.1", "log.3", "log.9", "log.10", "log.20", "log.00", "log.02", "log.000", "log.0000000000000000000000000000",
		"log.18446744073709551615", "log.18446744073709551616", "log.18446744073709551618", "log.9999999999999999999999999999",
	}
	stay := []string{
		"log", "log.", "log0", "log.a", "log.0a", "log.a0", "log.0.", "log.0.0", "log..0", "log.-1", "log.+1", "log. 1", "log.1 ", "log.0x1", "log.1_0", "log.1e1",
		"log.mm", "log.m0", "log.0m", "log.tt", "log.M", "log.T", "log.\xff", "log.0\x00", "log./", "log.:", "log.0/", "log.0:", "log.\u0661", "log.1\u0661", "log.\uff11",
		"lo.1", "og.1", "logs.1", "alog.1", "LOG.1", "Log.1", "log\x00.1", "log,1", " log.1", "l.1", "1", "0", ".1", "m", "t", "lo.m", "lo.t", "logs.m", "logs.t",
	}
	files := map[string][]byte{"log.m": manifest(0, 2), "log.0": frames("a", "b"), "log.2": frames("c")}
	for _, name := range stay {
		files[name] = []byte("stays " + name)
	}
	d := laid(t, files)
	for _, name := range go1 {
		wantErrno(t, "Append", d.Append(name, frames("x")), api.OK)
	}
	for range 2 {
		wantLog(t, open(t, d, 9), has{safe: 3, records: letters(3), segments: []uint64{0, 2}})
		wantFiles(t, d, files)
	}
}

// By rising names, not numbers: of two that go, a fall at the second shows which one was first.
func TestStraysGoByRisingNames(t *testing.T) {
	d := laid(t, map[string][]byte{"log.m": manifest(0), "log.9": nil, "log.10": nil, "log.100": nil, "log.010": nil})
	for _, left := range [][]string{
		{"log.10", "log.100", "log.9", "log.m"}, {"log.100", "log.9", "log.m"}, {"log.9", "log.m"}, {"log.m"},
	} {
		d.Fuse(2, 0) // the draft's Delete, and one more
		l, errno := seglog.Open(d, "log", 9)
		if len(left) > 1 && (l != nil || errno != api.ErrDown) {
			t.Errorf("Open = %v, %v", l, errno)
		}
		d.Wake(nil)
		wantNames(t, d, left...)
	}
}

func TestATornRecordIsCutOff(t *testing.T) {
	whole := frames("abc", "", "de")
	ends := map[int]int{0: 0, 11: 1, 19: 2, 29: 3}
	for cut := range len(whole) + 1 {
		d := laid(t, map[string][]byte{"log.m": manifest(4), "log.4": whole[:cut]})
		count := 0
		for end, n := range ends {
			if end <= cut {
				count = max(count, n)
			}
		}
		records := []string{"abc", "", "de"}[:count]
		l := open(t, d, 100)
		wantLog(t, l, has{base: 4, safe: 4 + uint64(count), records: records, segments: []uint64{4}})
		wantFiles(t, d, map[string][]byte{"log.m": manifest(4), "log.4": frames(records...)})
		put(t, l, "more")
		wantFiles(t, d, map[string][]byte{"log.m": manifest(4), "log.4": frames(append(records, "more")...)})
	}
}

func TestWhatStandsBehindWholeRecordsIsCutOff(t *testing.T) {
	two, spoilt := frames("a", "b"), frames("c")
	spoilt[5] ^= 4
	for _, behind := range [][]byte{
		{0}, []byte("junk"), []byte("junk that is longer than a frame"), bytes.Repeat([]byte{0xff}, 50), bytes.Repeat([]byte{0}, 7),
		spoilt, append(spoilt, frames("d", "e")...), {0, 1, 0, 1}, append([]byte{0, 1, 0, 1}, make([]byte, api.MaxRecord+20)...),
	} {
		for _, lay := range []func(*testing.T, map[string][]byte) *disk.Disk{laid, loose} {
			d := lay(t, map[string][]byte{"log.m": manifest(0), "log.0": append(bytes.Clone(two), behind...)})
			wantLog(t, open(t, d, 100), has{safe: 2, records: letters(2), segments: []uint64{0}})
			wantFiles(t, d, map[string][]byte{"log.m": manifest(0), "log.0": two})
			if d.Safe("log.0") != len(two) {
				t.Errorf("%d bytes are safe", d.Safe("log.0"))
			}
		}
		d := laid(t, map[string][]byte{"log.m": manifest(0), "log.0": behind})
		if behind[0] == 0 && len(behind) > headSize && behind[1] == 0 { // begins with a record
			continue
		}
		wantLog(t, open(t, d, 100), has{segments: []uint64{0}})
		wantFiles(t, d, map[string][]byte{"log.m": manifest(0), "log.0": nil})
	}
}

// A segment that isn't the last one has just its records: nothing is cut off there, and it stays as it is.
func TestSegmentsThatAreNotAsTheManifestTells(t *testing.T) {
	right := frames("b", "c")
	spoilt := bytes.Clone(right)
	spoilt[len(spoilt)-1]++
	for what, wrong := range map[string][]byte{
		"too few": frames("b"), "none": nil, "too many": frames("b", "c", "d"), "far too many": frames("b", "c", "d", "e", "f"),
		"a byte behind": append(bytes.Clone(right), 0), "junk behind": append(bytes.Clone(right), "junk"...), "a byte less": right[:len(right)-1], "spoilt": spoilt,
		"half a record behind": append(bytes.Clone(right), frames("d")[:8]...), "junk": []byte("junk"), "too few, and junk": append(frames("b"), "junk behind it"...),
	} {
		files := map[string][]byte{"log.m": manifest(1, 2, 4), "log.1": frames("a"), "log.2": wrong, "log.4": append(frames("d"), "junk"...)}
		d := laid(t, files)
		d.Append("log.3", []byte("a stray"))
		if l, errno := seglog.Open(d, "log", 9); l != nil || errno != api.ErrForm {
			t.Errorf("%s: Open = %v, %v", what, l, errno)
		}
		wantFiles(t, d, files)

		files = map[string][]byte{"log.m": manifest(2, 4), "log.2": wrong}
		d = laid(t, files)
		wantRefused(t, d, "log", 9, api.ErrForm)
		wantFiles(t, d, files)
	}
}

// A gap between two numbers isn't a number of records, be it as great as numbers are.
func TestGreatGapsBetweenSegments(t *testing.T) {
	for _, next := range []uint64{3, 1 << 32, 1<<32 + 2, 1 << 63, 1<<63 + 2, math.MaxUint64} {
		d := laid(t, map[string][]byte{"log.m": manifest(0, next), "log.0": frames("a", "b")})
		wantRefused(t, d, "log", 9, api.ErrForm)
	}
}

func TestNumbersUpToTheGreatest(t *testing.T) {
	const all = math.MaxUint64 // 2^64 less 1
	for _, c := range []struct {
		start uint64
		count int
		ok    bool
	}{
		{all, 0, true}, {all, 1, false}, {all, 2, false}, {all - 1, 1, true}, {all - 1, 2, false}, {all - 1, 3, false}, {all - 3, 2, true}, {all - 3, 3, true}, {all - 3, 4, false},
	} {
		file := fmt.Sprintf("log.%d", c.start)
		files := map[string][]byte{"log.m": manifest(c.start), file: append(frames(letters(c.count)...), "junk"...)}
		d := laid(t, files)
		if !c.ok {
			wantRefused(t, d, "log", 9, api.ErrForm)
			wantFiles(t, d, files) // nothing is cut off
			continue
		}
		want := has{base: c.start, safe: c.start + uint64(c.count), records: letters(c.count), segments: []uint64{c.start}}
		wantLog(t, open(t, d, 9), want)
		files[file] = frames(letters(c.count)...)
		wantFiles(t, d, files)
	}
	d := laid(t, map[string][]byte{"log.m": manifest(all-3, all-1), "log.18446744073709551612": frames("a", "b"), "log.18446744073709551614": frames("c")})
	l := open(t, d, 9)
	want := has{base: all - 3, safe: all, records: letters(3), segments: []uint64{all - 3, all - 1}}
	wantLog(t, l, want)

	// Behind the greatest number no record has one.
	d.Fuse(0, 0)
	wantErrno(t, "Append of too much", l.Append(make([]byte, api.MaxRecord+1)), api.ErrLong)
	wantErrno(t, "Append", l.Append([]byte("d")), api.ErrRange)
	wantErrno(t, "Trim of nothing", l.Trim(all-2), api.OK)
	if !d.Up() {
		t.Error("an act was done")
	}
	wantLog(t, l, want)
	d.Fuse(math.MaxInt, 0)
	wantErrno(t, "Trim", l.Trim(all-1), api.OK)
	want = has{base: all - 1, safe: all, records: []string{"c"}, segments: []uint64{all - 1}}
	wantLog(t, l, want)
	wantLog(t, open(t, d, 9), want)
}

func TestRecordsAreMadeSafeAsALogIsOpened(t *testing.T) {
	files := map[string][]byte{"log.m": manifest(0, 2, 4), "log.0": frames("a", "b"), "log.2": frames("c", "d"), "log.4": append(frames("e"), "junk"...)}
	d := loose(t, files)
	l := open(t, d, 100)
	wantLog(t, l, has{safe: 5, records: letters(5), segments: []uint64{0, 2, 4}})
	for name, want := range map[string]int{"log.0": 18, "log.2": 18, "log.4": 9, "log.m": 0} {
		if got := d.Safe(name); got != want {
			t.Errorf("%d bytes of %s are safe, want %d", got, name, want)
		}
	}
}

// A part of a record's being safe isn't enough; where all are, and nothing is behind them, no act is done but the draft's Delete.
func TestFilesAreMadeSafeJustWhereRecordsAreNot(t *testing.T) {
	for safe, acts := range map[int]int{0: 2, 1: 2, 9: 2, 10: 2, 17: 2, 18: 1} {
		d := laid(t, map[string][]byte{"log.m": manifest(0), "log.0": frames("a", "b")[:safe]})
		d.Append("log.0", frames("a", "b")[safe:])
		d.Fuse(acts, 0)
		open(t, d, 100)
		wantErrno(t, "the act behind them", d.Sync("log.m"), api.ErrDown)
	}
	for _, end := range []int{0, 9} { // what is cut off needn't be made safe
		d := laid(t, map[string][]byte{"log.m": manifest(0), "log.0": frames("a", "b")[:end]})
		d.Append("log.0", []byte("junk"))
		d.Fuse(2, 0)
		open(t, d, 100)
		wantErrno(t, "the act behind them", d.Sync("log.m"), api.ErrDown)
	}
	d := laid(t, map[string][]byte{"log.m": manifest(0)})
	d.Append("log.0", nil)
	d.Fuse(1, 0)
	open(t, d, 100)
	wantErrno(t, "the act behind them", d.Sync("log.m"), api.ErrDown)
}

// A segment is made safe before the next one is read: where that one isn't as said, all ahead of it are safe, and it isn't.
func TestSegmentsAreMadeSafeOneByOne(t *testing.T) {
	d := loose(t, map[string][]byte{"log.m": manifest(0, 2, 4, 6), "log.0": frames("a", "b"), "log.2": frames("c", "d"), "log.4": frames("e"), "log.6": frames("g")})
	wantRefused(t, d, "log", 9, api.ErrForm)
	for name, want := range map[string]int{"log.0": 18, "log.2": 18, "log.4": 0, "log.6": 0} {
		if got := d.Safe(name); got != want {
			t.Errorf("%d bytes of %s are safe, want %d", got, name, want)
		}
	}
	// The disk's error that is met at the first one comes ahead of the second one's.
	for n, want := range []api.Errno{api.ErrDown, api.ErrDown, api.ErrDown, api.ErrForm} {
		d := loose(t, map[string][]byte{"log.m": manifest(0, 2, 4, 6), "log.0": frames("a", "b"), "log.2": frames("c", "d"), "log.4": frames("e")})
		d.Fuse(n, 0)
		wantRefused(t, d, "log", 9, want)
	}
}

// Without a manifest there have to be room, and a file's place, for one.
func TestOpeningWhereThereIsNoRoom(t *testing.T) {
	size := len(manifest(0))
	for room, want := range map[int]api.Errno{0: api.ErrFull, size - 1: api.ErrFull, size: api.OK} {
		d := newDisk(t, room)
		d.Append("log.t", make([]byte, room)) // goes first
		l, errno := seglog.Open(d, "log", 9)
		if errno != want || (l != nil) != (want == api.OK) {
			t.Errorf("room %d: Open = %v, %v", room, l, errno)
		}
		if want == api.OK {
			wantNames(t, d, "log.m")
		} else {
			wantNames(t, d)
		}
	}
	for _, most := range []int{api.MaxFiles - 1, api.MaxFiles} {
		d := newDisk(t, 1000)
		for i := range most {
			wantErrno(t, "Append", d.Append(fmt.Sprint(i), nil), api.OK)
		}
		l, errno := seglog.Open(d, "log", 9)
		if most == api.MaxFiles {
			wantErrno(t, "Open with too many files", errno, api.ErrFull)
		} else if errno != api.OK || l == nil || len(d.List()) != api.MaxFiles {
			t.Errorf("Open with one file less = %v, %d files", errno, len(d.List()))
		}
	}
}

// Where there is a manifest, opening a log that is whole needs no room.
func TestOpeningAWholeLogOnAFullDisk(t *testing.T) {
	d := newDisk(t, len(manifest(0))+9)
	l := open(t, d, 100)
	put(t, l, "a")
	for i := range api.MaxFiles - 2 {
		wantErrno(t, "Append", d.Append(fmt.Sprint(i), nil), api.OK)
	}
	wantLog(t, open(t, d, 100), has{safe: 1, records: letters(1), segments: []uint64{0}})
}
