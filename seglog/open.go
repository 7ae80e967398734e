package seglog

import (
	"math"
	"strings"

	"equerry/api"
	"equerry/pack"
	"equerry/rec"
)

// The endings of files that aren't segments.
const (
	manifest = "m"
	draft    = "t" // the manifest, till all of it is safe
)

// dropDraft is the first step of opening: a draft that a fall left is of no use.
func (l *Log) dropDraft() api.Errno { return l.drop(l.file(draft)) }

// findManifest is the step that finds out which segments there are.
func (l *Log) findManifest() api.Errno {
	b, errno := l.disk.Read(l.file(manifest))
	if errno == api.ErrNone {
		l.starts = []uint64{0}
		return l.tell(l.starts)
	}
	if errno != api.OK {
		return errno
	}
	starts, ok := told(b)
	if !ok {
		return api.ErrForm
	}
	l.starts = starts
	return api.OK
}

// dropStrays is the step that deletes files of segments that the manifest doesn't tell.
func (l *Log) dropStrays() api.Errno {
	places := map[string]int{}
	for i, start := range l.starts {
		places[l.segment(start)] = i
	}
	stays := func(file string) bool {
		ending, ours := strings.CutPrefix(file, l.file(""))
		_, isTold := places[file]
		return isTold || !ours || !isOf(ending, '0', '9')
	}
	for _, file := range l.disk.List() {
		if stays(file) {
			continue
		}
		if errno := l.disk.Delete(file); errno != api.OK {
			return errno
		}
	}
	return api.OK
}

// readSegments is the last step of opening.
func (l *Log) readSegments() api.Errno {
	for i := range l.starts {
		if errno := l.readSegment(i); errno != api.OK {
			return errno
		}
	}
	l.safe = l.End()
	return api.OK
}

// readSegment reads a segment, and leaves nothing but safe records in its file.
func (l *Log) readSegment(i int) api.Errno {
	file := l.segment(l.starts[i])
	b, errno := l.disk.Read(file)
	if errno != api.OK && errno != api.ErrNone { // without a file it has no records
		return errno
	}
	records, end := rec.Scan(b)
	if !l.fits(i, uint64(len(records)), end < len(b)) {
		return api.ErrForm
	}
	if end < len(b) {
		if errno := l.disk.Truncate(file, end); errno != api.OK {
			return errno
		}
	}
	if l.disk.Safe(file) < end {
		if errno := l.makeSafe(file); errno != api.OK {
			return errno
		}
	}
	l.records = append(l.records, records...)
	l.size = end
	return api.OK
}

// fits tells whether a segment may have that many records, with more behind them, or nothing.
func (l *Log) fits(i int, count uint64, more bool) bool {
	start, next := l.starts[i], i+1
	if next == len(l.starts) {
		return count <= math.MaxUint64-start
	}
	return !more && count == l.starts[next]-start
}

// tell writes the manifest: it is a draft till it is safe, so that a fall leaves the old one or the new one.
func (l *Log) tell(starts []uint64) api.Errno {
	record := pack.Put(nil, uint64(len(starts)))
	for _, start := range starts {
		record = pack.Put(record, start)
	}
	frame, errno := rec.Put(nil, record)
	if errno != api.OK {
		return errno
	}
	file := l.file(draft)
	if errno := l.drop(file); errno != api.OK {
		return errno
	}
	if errno := l.disk.Append(file, frame); errno != api.OK {
		return errno
	}
	if errno := l.makeSafe(file); errno != api.OK {
		return errno
	}
	return l.disk.Rename(file, l.file(manifest))
}

// told are the numbers that a manifest's bytes tell, if they are as they have to be: one record of some numbers that rise.
func told(b []byte) ([]uint64, bool) {
	record, end, errno := rec.Get(b, 0)
	if errno != api.OK || end != len(b) {
		return nil, false
	}
	count, at, errno := pack.Get(record, 0)
	if errno != api.OK {
		return nil, false
	}
	var starts []uint64
	for range count { // a count that is too great ends with the record's bytes
		start, next, errno := pack.Get(record, at)
		if errno != api.OK || len(starts) > 0 && start <= starts[len(starts)-1] {
			return nil, false
		}
		starts, at = append(starts, start), next
	}
	return starts, len(starts) > 0 && at == len(record)
}
