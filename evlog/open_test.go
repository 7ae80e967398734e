package evlog_test

import (
	"fmt"
	"math"
	"strings"
	"testing"

	"equerry/api"
	"equerry/disk"
	"equerry/evlog"
	"equerry/seglog"
)

// P17.1: opening

func wantNotOpened(t *testing.T, what string, d *disk.Disk, most int, want api.Errno) {
	t.Helper()
	if l, errno := evlog.Open(d, most); l != nil || errno != want {
		t.Errorf("%s: Open(%d) = %v, %v, want %v", what, most, l, errno, want)
	}
}

func TestMosts(t *testing.T) {
	for _, most := range []int{1, 2, api.MaxDisk - 1, api.MaxDisk} {
		open(t, newDisk(t, 1000), most)
	}
	for _, most := range []int{0, -1, math.MinInt, api.MaxDisk + 1, math.MaxInt32, math.MaxInt} {
		d := newDisk(t, 1000)
		wantNotOpened(t, "no most", d, most, api.ErrArg)
		wantFiles(t, d, map[string]string{})
		wantNotOpened(t, "no most, no disk", nil, most, api.ErrArg)
	}
}

// So many bytes a segment: where the third event goes.
func TestSegments(t *testing.T) {
	for most, want := range map[int][]uint64{1: {0, 1, 2}, short: {0, 1, 2}, short + 1: {0, 2}, 2 * short: {0, 2}, 2*short + 1: {0}, api.MaxDisk: {0}} {
		d := newDisk(t, 1000)
		put(t, open(t, d, most), seven()[:3]...)
		if got := filesOf(d)["ev.m"]; got != manifest(want...) {
			t.Errorf("most %d: the manifest is %q, want %q", most, got, manifest(want...))
		}
	}
}

func TestOpeningWhereThereIsNoDisk(t *testing.T) {
	wantNotOpened(t, "nil", nil, 9, api.ErrDown)
	wantNotOpened(t, "no room", newDisk(t, len(manifest(0))-1), 9, api.ErrFull)
	open(t, newDisk(t, len(manifest(0))), 9)
	crowded := newDisk(t, 1000)
	for i := range api.MaxFiles {
		crowded.Append(fmt.Sprint(i), nil)
	}
	wantNotOpened(t, "too many files", crowded, 9, api.ErrFull)
	d, l := opened(t)
	put(t, l, seven()...)
	d.Crash()
	wantNotOpened(t, "down", d, 9, api.ErrDown)
}

// A fall at each act of opening: the log isn't opened, and comes back with what was safe.
func TestAFallWithinOpening(t *testing.T) {
	lay := func() *disk.Disk {
		d, l := opened(t)
		put(t, l, seven()...)
		d.Append("ev.t", []byte("a draft"))
		d.Append("ev.77", []byte("a stray"))
		d.Append("ev.6", []byte("torn"))
		return d
	}
	acts := 0
	for ; ; acts++ {
		d := lay()
		d.Fuse(acts, 0)
		l, errno := evlog.Open(d, 2*short)
		if d.Up() {
			wantErrno(t, "Open", errno, api.OK)
			wantLog(t, l, has{safe: 7, events: seven(), seqs: seqs{1: 2, 2: 3, 3: 2}})
			break
		}
		if l != nil || errno != api.ErrDown {
			t.Errorf("fuse %d: Open = %v, %v", acts, l, errno)
		}
		d.Wake([]int{99, 99, 99, 99, 99, 99, 99})
	}
	if acts != 4 { // the draft's Delete, the stray's, Truncate, Sync
		t.Errorf("Open is of %d acts", acts)
	}
}

// notManifests are bytes that are no manifest.
func notManifests() []string {
	whole := manifest(0, 2)
	return []string{"", "x", "junk", "junk that is longer than a frame", whole[:len(whole)-1], whole + "\x00", whole + whole, manifest(), manifest(2, 0), manifest(2, 2), frame(""), frame("\x01")}
}

func TestOpeningWithWhatIsNoLog(t *testing.T) {
	two := frames(seven()[:2]...)
	for _, m := range notManifests() {
		files := map[string]string{"ev.m": m, "ev.0": two}
		d := laid(t, files)
		wantNotOpened(t, fmt.Sprintf("manifest %q", m), d, 9, api.ErrForm)
		wantFiles(t, d, files)
	}
	for _, first := range []string{"", "junk", frames(seven()[0]), two + "x", two + frames(seven()[2])} {
		files := map[string]string{"ev.m": manifest(0, 2), "ev.0": first, "ev.2": frames(seven()[2])}
		d := laid(t, files)
		wantNotOpened(t, fmt.Sprintf("segment %q", first), d, 9, api.ErrForm)
		wantFiles(t, d, files)
	}
	wantNotOpened(t, "above all numbers", laid(t, map[string]string{"ev.m": manifest(math.MaxUint64), "ev.18446744073709551615": frames(seven()[0])}), 9, api.ErrForm)
}

// Just the files of the name ev are the log's.
func TestOtherFiles(t *testing.T) {
	others := map[string]string{
		"ev": "1", "ev.": "2", "ev0": "3", "e.m": "junk", "e.0": "4", "evs.m": "junk", "evs.0": "5", "ev.mm": "6", "ev.0m": "7", "EV.0": "8", "v.0": "9", "ct.m": "junk", "qaaaaaaa.m": "junk", "log.7": "10",
	}
	d := laid(t, others)
	put(t, open(t, d, 2*short), seven()...)
	d.Append("ev.9", []byte("a stray"))
	l := open(t, d, 2*short)
	wantLog(t, l, has{safe: 7, events: seven(), seqs: seqs{1: 2, 2: 3, 3: 2}})
	wantErrno(t, "Trim", l.Trim(6), api.OK)
	others["ev.m"], others["ev.6"] = manifest(6), frames(seven()[6])
	wantFiles(t, d, others)
}

// The log is one of layer 9: each of both layers reads what the other one writes.
func TestTheLogIsOneOfLayer9(t *testing.T) {
	d := newDisk(t, 1000)
	log, errno := seglog.Open(d, "ev", 2*short)
	wantErrno(t, "Open of layer 9", errno, api.OK)
	for _, e := range seven()[:3] {
		wantErrno(t, "Append", log.Append([]byte(writing(e))), api.OK)
	}
	l := open(t, d, 2*short)
	wantLog(t, l, has{safe: 3, events: seven()[:3], seqs: seqs{1: 2, 2: 1}})
	put(t, l, seven()[3:]...)
	log, errno = seglog.Open(d, "ev", 2*short)
	wantErrno(t, "Open of layer 9", errno, api.OK)
	for i, record := range log.All() {
		if want := writing(seven()[i]); string(record) != want {
			t.Errorf("the record %d is %q, want %q", i, record, want)
		}
	}
	if len(log.All()) != 7 || len(log.Segments()) != 4 {
		t.Errorf("%d records, segments %v", len(log.All()), log.Segments())
	}
}

// notEvents are records that are no logged events.
func notEvents() map[string]string {
	whole := writing(api.Logged{Pub: 1, Seq: 2, At: 300, Event: rich()[5]})
	nine := whole[:4] + "\x03\x09" + strings.Repeat("\x00", 9)
	return map[string]string{
		"nothing":                     "",
		"junk":                        "junk",
		"a Pub alone":                 "\x01",
		"no event":                    "\x01\x02\x03",
		"a topic alone":               "\x01\x02\x03\x04",
		"a field that isn't there":    "\x01\x02\x03\x04\x01",
		"a byte less":                 whole[:len(whole)-1],
		"a byte more":                 whole + "\x00",
		"two events":                  whole + whole,
		"a Pub of 2^32":               "\x80\x80\x80\x80\x10\x02\x03\x04\x00",
		"a great Pub":                 "\xff\xff\xff\xff\xff\xff\xff\xff\xff\x01\x02\x03\x04\x00",
		"a Pub of 2^64":               "\xff\xff\xff\xff\xff\xff\xff\xff\xff\x02\x02\x03\x04\x00",
		"a Seq of 2^64":               "\x01\xff\xff\xff\xff\xff\xff\xff\xff\xff\x02\x03\x04\x00",
		"an At of 2^64":               "\x01\x02\xff\xff\xff\xff\xff\xff\xff\xff\xff\x02\x04\x00",
		"a long Pub":                  "\x81\x00\x02\x03\x04\x00",
		"a long Seq":                  "\x01\x82\x00\x03\x04\x00",
		"a long At":                   "\x01\x02\x83\x00\x04\x00",
		"half a number":               "\x01\x80",
		"nine fields":                 nine,
		"255 fields":                  "\x01\x02\x03\x04\xff" + strings.Repeat("\x00", 255),
		"a kind that is none":         "\x01\x02\x03\x04\x01\x04",
		"a great kind":                "\x01\x02\x03\x04\x02\x00\xff",
		"a text that is too long":     "\x01\x02\x03\x04\x01\x03\x80\x02" + strings.Repeat("a", 256),
		"a text that is cut off":      "\x01\x02\x03\x04\x01\x03\x05abcd",
		"a real number that is short": "\x01\x02\x03\x04\x01\x02\x00\x00\x00",
		"a NaN of other bits":         "\x01\x02\x03\x04\x01\x02\xff\xf8\x00\x00\x00\x00\x00\x01",
		"a record of all bytes":       strings.Repeat("a", api.MaxRecord),
	}
}

// A record that is no logged event: alone, at the front, in the middle, at the end, of a segment and of the log.
func TestRecordsThatAreNoLoggedEvents(t *testing.T) {
	for what, record := range notEvents() {
		if _, ok := plainRead(record); ok {
			t.Fatalf("%s is one", what)
		}
		wrong := frame(record)
		files := map[string]string{"ev.m": manifest(3), "ev.3": wrong}
		d := laid(t, files)
		wantNotOpened(t, what+", alone", d, 9, api.ErrForm)
		wantFiles(t, d, files)
		for place := range 7 {
			files := map[string]string{"ev.m": manifest(0, 2, 4, 6)}
			for i, e := range seven() {
				name := fmt.Sprintf("ev.%d", i/2*2)
				if i == place {
					files[name] += wrong
				} else {
					files[name] += frames(e)
				}
			}
			d := laid(t, files)
			wantNotOpened(t, fmt.Sprintf("%s, at %d", what, place), d, 9, api.ErrForm)
			wantFiles(t, d, files)
			whole := map[string]string{"ev.m": manifest(0, 2, 4, 6), "ev.0": frames(seven()[:2]...), "ev.2": frames(seven()[2:4]...), "ev.4": frames(seven()[4:6]...), "ev.6": frames(seven()[6])}
			open(t, laid(t, whole), 9)
		}
	}
}

// What stands behind the whole records is cut off, be it a part of what is no logged event; layer 9's errors come first.
func TestWhatIsCutOffIsNoRecord(t *testing.T) {
	torn := frame("junk")
	for cut := range len(torn) {
		d := laid(t, map[string]string{"ev.m": manifest(0), "ev.0": frames(seven()[:2]...) + torn[:cut]})
		wantLog(t, open(t, d, 100), has{safe: 2, events: seven()[:2], seqs: seqs{1: 2}})
		wantFiles(t, d, map[string]string{"ev.m": manifest(0), "ev.0": frames(seven()[:2]...)})
	}
	d := laid(t, map[string]string{"ev.m": manifest(0, 1), "ev.0": torn})
	d.Append("ev.1", []byte(torn))
	d.Fuse(1, 0)
	wantNotOpened(t, "what is no logged event, and a fall", d, 9, api.ErrDown)
	d.Wake([]int{99})
	d.Append("ev.1", []byte(torn+"x"))
	wantNotOpened(t, "what is no logged event, and torn", d, 9, api.ErrForm)
	if got := filesOf(d)["ev.1"]; strings.HasSuffix(got, "x") { // what was done to the disk stays
		t.Errorf("the last segment is %q", got)
	}
}

// Any events may stand in a log: its numbers and its time are those of the last ones.
func TestNumbersAndTimesOfWhatIsThere(t *testing.T) {
	for _, c := range []struct {
		what   string
		events []api.Logged
		seqs   seqs
		time   uint64
	}{
		{"none", nil, seqs{}, 0},
		{"one", []api.Logged{logged(7, 1, 5)}, seqs{7: 1}, 5},
		{"one that isn't a first one", []api.Logged{logged(7, 9, 5)}, seqs{7: 9}, 5},
		{"some", seven(), seqs{1: 2, 2: 3, 3: 2}, 9},
		{"a gap", []api.Logged{logged(7, 1, 5), logged(7, 5, 6)}, seqs{7: 5}, 6},
		{"falling", []api.Logged{logged(7, 5, 8), logged(2, 1, 9), logged(7, 3, 6)}, seqs{2: 1, 7: 3}, 6},
		{"the same", []api.Logged{logged(7, 5, 8), logged(7, 5, 8)}, seqs{7: 5}, 8},
		{"the greatest", []api.Logged{logged(math.MaxUint32, math.MaxUint64, math.MaxUint64)}, seqs{math.MaxUint32: math.MaxUint64}, math.MaxUint64},
	} {
		start := uint64(len(c.events) * 3)
		d := laid(t, map[string]string{"ev.m": manifest(start), fmt.Sprintf("ev.%d", start): frames(c.events...)})
		l := open(t, d, api.MaxDisk)
		wantLog(t, l, has{base: start, safe: start + uint64(len(c.events)), events: c.events, seqs: c.seqs})
		for pub, last := range c.seqs {
			if last < math.MaxUint64 {
				wantNumbers(t, l, pub, last)
			}
		}
		wantTime(t, l, c.time)
		if t.Failed() {
			t.Fatal(c.what)
		}
	}
}

// What was noted counts beside what is there, from whichever is greater.
func TestNotesBehindOpening(t *testing.T) {
	d, l := opened(t)
	put(t, l, seven()...)
	l = open(t, d, 2*short)
	l.NoteTime(8)
	l.Note(1, 1)
	l.Note(2, 3)
	l.Note(3, 5)
	l.Note(4, 4)
	last := seqs{1: 2, 2: 3, 3: 5, 4: 4}
	wantLog(t, l, has{safe: 7, events: seven(), seqs: last})
	for pub, n := range last {
		wantNumbers(t, l, pub, n)
	}
	wantPut(t, l, 0, logged(3, 6, 9))
	l.NoteTime(10)
	wantPut(t, l, 0, logged(4, 5, 10))
	wantPut(t, l, 0, logged(1, 3, 10))
}
