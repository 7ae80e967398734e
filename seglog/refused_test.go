package seglog_test

import (
	"fmt"
	"math"
	"slices"
	"testing"

	"equerry/api"
	"equerry/disk"
	"equerry/seglog"
)

// P9.1: what a disk refuses, and what the log and the disk are then

const rest = "rest" // a file that takes the room that is left

// fill leaves a disk of a room that many bytes.
func fill(t *testing.T, d *disk.Disk, room, left int) {
	t.Helper()
	wantErrno(t, "Append of the rest", d.Append(rest, make([]byte, room-d.Used()-left)), api.OK)
}

// empty lets the room be free again.
func empty(t *testing.T, d *disk.Disk) {
	t.Helper()
	wantErrno(t, "Delete of the rest", d.Delete(rest), api.OK)
}

// filesOf are all files of a disk.
func filesOf(d *disk.Disk) map[string][]byte {
	files := map[string][]byte{}
	for _, name := range d.List() {
		files[name], _ = d.Read(name)
	}
	return files
}

func TestAppendOnAFullDisk(t *testing.T) {
	const room = 1000
	for left := range 11 {
		d := newDisk(t, room)
		l := open(t, d, 100)
		put(t, l, "a")
		wantErrno(t, "Sync", l.Sync(), api.OK)
		put(t, l, "b")
		fill(t, d, room, left)
		files := filesOf(d)
		want := has{safe: 1, records: letters(2), segments: []uint64{0}}
		if left < 10 {
			for range 2 {
				wantErrno(t, "Append on a full disk", l.Append([]byte("cd")), api.ErrFull)
				wantLog(t, l, want)
				wantFiles(t, d, files)
			}
			empty(t, d)
		}
		put(t, l, "cd")
		want.records = append(want.records, "cd")
		wantLog(t, l, want)
		d.Delete(rest)
		wantFiles(t, d, segmentFiles([]uint64{0}, want.records))
		wantErrno(t, "Sync", l.Sync(), api.OK)
	}
}

// Of a new segment the manifest needs room first, and then the record: where there is none for that, the segment is begun, and stays so.
func TestBeginningASegmentOnAFullDisk(t *testing.T) {
	const room = 1000
	draft := len(manifest(0, 2)) // the old one's bytes are free behind it
	free := draft - len(manifest(0, 2)) + len(manifest(0))
	for left := range draft + 9 {
		d := newDisk(t, room)
		l := open(t, d, 18)
		put(t, l, letters(2)...)
		fill(t, d, room, left)
		files := filesOf(d)
		errno := l.Append([]byte("c"))
		want := has{safe: 2, records: letters(2), segments: []uint64{0}} // the last one was made safe
		switch {
		case left < draft:
			wantErrno(t, "Append without room for the draft", errno, api.ErrFull)
		case left-draft+free < 9:
			wantErrno(t, "Append without room for the record", errno, api.ErrFull)
			want.segments = []uint64{0, 2}
			files["log.m"] = manifest(0, 2)
		default:
			wantErrno(t, "Append", errno, api.OK)
			want.segments, want.records = []uint64{0, 2}, letters(3)
			files["log.m"], files["log.2"] = manifest(0, 2), frames("c")
		}
		wantLog(t, l, want)
		wantFiles(t, d, files)
		if d.Safe("log.0") != 18 {
			t.Errorf("left %d: %d bytes are safe", left, d.Safe("log.0"))
		}
		empty(t, d)
		put(t, l, letters(5)[len(want.records):]...)
		wantLog(t, l, has{safe: 4, records: letters(5), segments: []uint64{0, 2, 4}})
		wantFiles(t, d, segmentFiles([]uint64{0, 2, 4}, letters(5)))
	}
}

// begun is a log whose last segment has no record, since there was no room for it.
func begun(t *testing.T) (*disk.Disk, *seglog.Log) {
	t.Helper()
	d := newDisk(t, 100)
	l := open(t, d, 18)
	put(t, l, letters(2)...)
	fill(t, d, 100, len(manifest(0, 2)))
	wantErrno(t, "Append", l.Append(make([]byte, 20)), api.ErrFull)
	empty(t, d)
	wantLog(t, l, has{safe: 2, records: letters(2), segments: []uint64{0, 2}})
	wantNames(t, d, "log.0", "log.m")
	return d, l
}

func TestASegmentThatWasBegun(t *testing.T) {
	d, l := begun(t)
	d.Fuse(1, 0)
	put(t, l, "c") // no other segment is begun: one act
	wantErrno(t, "the act behind it", d.Sync("log.m"), api.ErrDown)
	d.Wake([]int{9, 9, 9})
	want := has{safe: 2, records: letters(3), segments: []uint64{0, 2}}
	wantLog(t, l, want)
	want.safe = 3
	wantLog(t, open(t, d, 18), want)

	d, l = begun(t)
	d.Fuse(0, 0)
	wantErrno(t, "Sync", l.Sync(), api.OK) // it has no records, and no file
	d.Fuse(math.MaxInt, 0)
	wantLog(t, open(t, d, 18), has{safe: 2, records: letters(2), segments: []uint64{0, 2}})
	wantErrno(t, "Trim", l.Trim(2), api.OK)
	want = has{base: 2, safe: 2, segments: []uint64{2}}
	wantLog(t, l, want)
	wantFiles(t, d, map[string][]byte{"log.m": manifest(2)})
	wantLog(t, open(t, d, 18), want)
	put(t, l, "c")
	wantFiles(t, d, map[string][]byte{"log.m": manifest(2), "log.2": frames("c")})
}

func TestTrimOnAFullDisk(t *testing.T) {
	for left := range len(manifest(4)) + 1 {
		d := newDisk(t, 1000)
		l := open(t, d, 18)
		put(t, l, letters(5)...)
		fill(t, d, 1000, left)
		files := filesOf(d)
		if left < len(manifest(4)) {
			for range 2 {
				wantErrno(t, "Trim on a full disk", l.Trim(4), api.ErrFull)
				wantLog(t, l, has{safe: 4, records: letters(5), segments: []uint64{0, 2, 4}})
				wantFiles(t, d, files)
			}
			empty(t, d)
			put(t, l, "f")
			wantErrno(t, "Sync", l.Sync(), api.OK)
		}
		wantErrno(t, "Trim", l.Trim(4), api.OK)
		if l.Base() != 4 {
			t.Errorf("base %d", l.Base())
		}
		d.Delete(rest)
		wantNames(t, d, "log.4", "log.m")
	}
}

// crowd makes files until there are as many as most.
func crowd(t *testing.T, d *disk.Disk, most int) {
	t.Helper()
	for i := 0; len(d.List()) < most; i++ {
		wantErrno(t, "Append of a file", d.Append(fmt.Sprintf("crowd%d", i), nil), api.OK)
	}
}

func TestAppendWithTooManyFiles(t *testing.T) {
	// The first record needs a file.
	d := newDisk(t, api.MaxDisk)
	l := open(t, d, 18)
	crowd(t, d, api.MaxFiles)
	wantErrno(t, "Append", l.Append([]byte("a")), api.ErrFull)
	wantLog(t, l, has{segments: []uint64{0}})
	wantErrno(t, "Sync", l.Sync(), api.OK)
	wantErrno(t, "Delete", d.Delete("crowd7"), api.OK)
	put(t, l, "a", "b")

	// So does the draft; the log is as it was, but that all is safe.
	wantErrno(t, "Append", l.Append([]byte("c")), api.ErrFull)
	wantLog(t, l, has{safe: 2, records: letters(2), segments: []uint64{0}})
	if d.Safe("log.0") != 18 {
		t.Errorf("%d bytes are safe", d.Safe("log.0"))
	}
	wantErrno(t, "Trim of nothing", l.Trim(1), api.OK)
	wantErrno(t, "Delete", d.Delete("crowd8"), api.OK)
	put(t, l, "c", "d")
	wantErrno(t, "Append", l.Append([]byte("e")), api.ErrFull)
	wantErrno(t, "Trim", l.Trim(2), api.ErrFull)
	want := has{safe: 4, records: letters(4), segments: []uint64{0, 2}}
	wantLog(t, l, want)
	wantLog(t, open(t, d, 18), want)
	wantErrno(t, "Delete", d.Delete("crowd9"), api.OK)
	wantErrno(t, "Trim", l.Trim(2), api.OK)
	put(t, l, "e")
	wantLog(t, l, has{base: 2, safe: 4, records: letters(5)[2:], segments: []uint64{2, 4}})
}

// P9.1: a log whose disk goes down

// step is a call, by its name, and the record of an Append.
type step struct {
	name   string
	record string
	call   func(*seglog.Log) api.Errno
}

func appended(record string) step {
	return step{"Append", record, func(l *seglog.Log) api.Errno { return l.Append([]byte(record)) }}
}

func synced() step { return step{"Sync", "", (*seglog.Log).Sync} }

func trimmed(n uint64) step {
	return step{"Trim", "", func(l *seglog.Log) api.Errno { return l.Trim(n) }}
}

// wantGone holds a log that is gone against what it still tells: nothing changes it, nor the disk, be that up again.
func wantGone(t *testing.T, d *disk.Disk, l *seglog.Log, want has) {
	t.Helper()
	for range 2 {
		up, files := d.Up(), filesOf(d)
		for _, s := range []step{appended("x"), appended(""), appended(string(make([]byte, api.MaxRecord+1))), synced(), trimmed(0), trimmed(want.base), trimmed(math.MaxUint64)} {
			wantErrno(t, s.name+" of a log that is gone", s.call(l), api.ErrDown)
		}
		wantLog(t, l, want)
		if d.Up() != up {
			t.Error("the disk went down")
		}
		if up {
			wantFiles(t, d, files)
		}
		d.Wake(nil)
	}
}

// fused is what a call is cut off at: how many acts are done ahead, how many bytes of an Append are put on, and what is there then.
type fused struct {
	acts, keep int
	want       has
	files      map[string][]byte
}

// wantCutOff makes a call of a log of some letters at each of its acts.
func wantCutOff(t *testing.T, count, safe int, s step, cuts []fused) {
	t.Helper()
	for _, cut := range cuts {
		d, l := lettersIn(t, count)
		if safe == count {
			wantErrno(t, "Sync", l.Sync(), api.OK)
		}
		d.Fuse(cut.acts, cut.keep)
		wantErrno(t, fmt.Sprintf("%s with a fuse of %d, %d", s.name, cut.acts, cut.keep), s.call(l), api.ErrDown)
		d.Wake(slices.Repeat([]int{0}, 9))
		wantFiles(t, d, cut.files)
		wantGone(t, d, l, cut.want)
	}
	d, l := lettersIn(t, count)
	if safe == count {
		wantErrno(t, "Sync", l.Sync(), api.OK)
	}
	d.Fuse(cuts[len(cuts)-1].acts+1, 0)
	wantErrno(t, s.name+" of just so many acts", s.call(l), api.OK)
	if !d.Up() {
		t.Error(s.name, "does more acts")
	}
}

// with are files, and one more.
func with(files map[string][]byte, name string, b []byte) map[string][]byte {
	all := map[string][]byte{name: b}
	for n, has := range files {
		if n != name {
			all[n] = has
		}
	}
	return all
}

func TestAppendCutOff(t *testing.T) {
	was := has{safe: 2, records: letters(3), segments: []uint64{0, 2}}
	files := map[string][]byte{"log.m": manifest(0, 2), "log.0": frames("a", "b"), "log.2": nil}
	wantCutOff(t, 3, 2, appended("d"), []fused{{0, 0, was, files}, {0, 5, was, files}, {0, 9, was, files}})
	wantCutOff(t, 3, 2, synced(), []fused{{0, 0, was, files}})
}

// The last segment has most bytes: it is made safe, and the draft is deleted, appended to, made safe and renamed ahead of the record.
func TestBeginningASegmentCutOff(t *testing.T) {
	records := letters(2)
	loose := has{records: records, segments: []uint64{0}}
	safe := has{safe: 2, records: records, segments: []uint64{0}}
	begun := has{safe: 2, records: records, segments: []uint64{0, 2}}
	old := map[string][]byte{"log.m": manifest(0), "log.0": frames(records...)}
	drafted := with(old, "log.t", nil)
	renamed := with(old, "log.m", manifest(0, 2))
	cuts := []fused{
		{0, 0, loose, with(old, "log.0", nil)}, {1, 0, safe, old}, {2, 0, safe, drafted}, {2, 5, safe, drafted}, {3, 0, safe, drafted},
		{4, 0, safe, with(old, "log.t", manifest(0, 2))}, {5, 0, begun, with(renamed, "log.2", nil)}, {5, 3, begun, with(renamed, "log.2", nil)},
	}
	wantCutOff(t, 2, 0, appended("c"), cuts)
	for i := range cuts { // all is safe already: it is no act to make it so
		cuts[i].acts--
	}
	wantCutOff(t, 2, 2, appended("c"), cuts[1:])
}

func TestTrimCutOff(t *testing.T) {
	was := has{safe: 6, records: letters(6), segments: []uint64{0, 2, 4}}
	trim := has{base: 4, safe: 6, records: letters(6)[4:], segments: []uint64{4}}
	old := segmentFiles([]uint64{0, 2, 4}, letters(6))
	renamed := with(old, "log.m", manifest(4))
	one := map[string][]byte{"log.m": manifest(4), "log.2": frames("c", "d"), "log.4": frames("e", "f")}
	wantCutOff(t, 6, 6, trimmed(4), []fused{
		{0, 0, was, old}, {1, 0, was, with(old, "log.t", nil)}, {1, 7, was, with(old, "log.t", nil)}, {2, 0, was, with(old, "log.t", nil)}, {3, 0, was, with(old, "log.t", manifest(4))},
		{4, 0, trim, renamed}, {5, 0, trim, one},
	})
}

// A disk that is down is met by the first act: the log is gone then, and stays so.
func TestADiskThatIsDown(t *testing.T) {
	for _, s := range []step{appended("d"), synced(), trimmed(2)} {
		d, l := lettersIn(t, 3)
		d.Crash()
		want := has{safe: 2, records: letters(3), segments: []uint64{0, 2}}
		wantLog(t, l, want) // it is told without the disk
		wantErrno(t, s.name, s.call(l), api.ErrDown)
		wantGone(t, d, l, want)
		want = has{safe: 2, records: letters(2), segments: []uint64{0, 2}}
		wantLog(t, open(t, d, 18), want)
	}
}

// What can't be made safe isn't to be trusted, whatever the error is.
func TestALogThatCanNotBeMadeSafe(t *testing.T) {
	for _, s := range []step{synced(), appended("c")} {
		d, l := lettersIn(t, 2)
		wantErrno(t, "Delete", d.Delete("log.0"), api.OK)
		wantErrno(t, s.name, s.call(l), api.ErrNone)
		wantGone(t, d, l, has{records: letters(2), segments: []uint64{0}})
		if !d.Up() {
			t.Error("the disk is down")
		}
	}
}
