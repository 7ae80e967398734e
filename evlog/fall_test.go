package evlog_test

import (
	"fmt"
	"slices"
	"testing"

	"equerry/api"
	"equerry/disk"
	"equerry/evlog"
)

// P17.2, P17.3

// row is what a log is told, on a disk of a room, with segments of most bytes.
type row struct {
	room, most int
	calls      []call
}

func rows() []row {
	sync, open := call{kind: syncIt}, call{kind: openIt}
	next := func(pub uint32, now uint64) call { return publishCall(pub, 1, now) }
	trim := func(n int) call { return call{kind: trimIt, n: n} }
	note := func(pub uint32, n int) call { return call{kind: noteIt, pub: pub, n: n} }
	at := func(now uint64) call { return call{kind: timeIt, now: now} }
	rich := call{kind: publishIt, pub: 3, n: 1, now: 20, e: rich()[5]}
	return []row{
		{1000, 2 * short, []call{next(1, 5), next(2, 4), sync, next(1, 7), next(1, 6), trim(2), next(2, 8), sync, next(3, 8), open, next(2, 9), trim(5), next(1, 9), sync}},
		{1000, 1, []call{next(1, 5), sync, next(1, 6), publishCall(1, 0, 7), next(2, 1), trim(1), next(1, 7), open, open, next(2, 3), trim(3), sync, next(1, 9)}},
		{1000, 100, []call{next(2, 3), next(2, 2), publishCall(2, 2, 9), sync, rich, open, trim(3), next(2, 9), next(1, 50), at(60), next(2, 4)}},
		{1000, 2*short + 1, []call{note(1, 0), next(1, 1), next(1, 2), open, next(1, 2), next(1, 1), next(2, 0), rich, trim(3), next(3, 30), sync, next(1, 31)}},
		{110, 2 * short, []call{next(1, 5), next(1, 6), next(2, 6), next(2, 7), sync, next(1, 8), trim(2), next(1, 9), next(2, 9), trim(4), next(1, 10), next(1, 11), sync, open, next(2, 12)}},
	}
}

// walked is how far a row came: what the log told last, and the events that were told to it, and not refused for another reason than a fall.
type walked struct {
	d          *disk.Disk
	most       int
	base, safe uint64
	time       uint64 // what was noted
	tried      []api.Logged
}

// walk goes through a row, up to its end or a fall at an act.
func walk(t *testing.T, r row, acts, keep int) *walked {
	t.Helper()
	w := &walked{d: newDisk(t, r.room), most: r.most}
	w.d.Fuse(acts, keep)
	l, errno := evlog.Open(w.d, r.most)
	for _, c := range r.calls {
		if errno == api.ErrDown {
			break
		}
		switch c.kind {
		case openIt:
			l, errno = evlog.Open(w.d, r.most)
		case publishIt:
			errno = w.publish(l, c)
		case syncIt:
			errno = l.Sync()
		case trimIt:
			errno = l.Trim(uint64(c.n))
		default:
			c.do(l, w.d, l.Seq(c.pub)+uint64(c.n))
			w.time = max(w.time, c.now)
		}
		if l != nil {
			w.base, w.safe = l.Base(), l.Safe()
		}
	}
	return w
}

func (w *walked) publish(l *evlog.Log, c call) api.Errno {
	e := api.Logged{Pub: c.pub, Seq: l.Seq(c.pub) + uint64(c.n), At: max(c.now, w.time), Event: c.e}
	if n := len(w.tried); n > 0 {
		e.At = max(e.At, w.tried[n-1].At)
	}
	_, errno := l.Publish(e.Pub, e.Seq, c.now, e.Event)
	if errno == api.OK || errno == api.ErrDown {
		w.tried = append(w.tried, e)
	}
	return errno
}

// eachFall is each way in which a row falls: at each act, or behind the last one, with each number of bytes that are put on and that are kept. Each is told by a function that lets it fall anew.
func eachFall(t *testing.T, r row, do func(what string, fall func() *walked)) {
	t.Helper()
	for acts := 0; ; acts++ {
		none := walk(t, r, acts, 0)
		for keep := 0; ; keep++ {
			w := walk(t, r, acts, keep)
			if keep > 0 && w.d.Used() == none.d.Used() { // as many bytes as there are, and 1, are none
				break
			}
			eachKeep(len(w.d.List()), func(kept []int) int {
				fall := func() *walked {
					w := walk(t, r, acts, keep)
					w.d.Crash()
					w.d.Wake(kept)
					return w
				}
				do(fmt.Sprintf("room %d, most %d, fuse %d, %d, kept %v", r.room, r.most, acts, keep, kept), fall)
				return fall().d.Used()
			})
		}
		if none.d.Up() {
			return
		}
	}
}

// eachKeep is each number of bytes kept of each file, alone and as many of all others; used is how many bytes are there then.
func eachKeep(files int, used func(kept []int) int) {
	none := used(nil)
	for file := range files {
		for n := 1; ; n++ {
			kept := make([]int, files)
			kept[file] = n
			if used(kept) == none {
				break
			}
			used(slices.Repeat([]int{n}, files))
		}
	}
}

// wantStayed opens a log behind a fall, and holds it against what has to be there.
func (w *walked) wantStayed(t *testing.T, what string) *evlog.Log {
	t.Helper()
	l, errno := evlog.Open(w.d, w.most)
	if errno != api.OK {
		t.Fatalf("%s: Open = %v", what, errno)
	}
	if l.Base() != w.base || l.End() < w.safe || l.End() > uint64(len(w.tried)) || l.Safe() != l.End() {
		t.Fatalf("%s: base %d, safe %d, end %d, want %d, and from %d to %d", what, l.Base(), l.Safe(), l.End(), w.base, w.safe, len(w.tried))
	}
	want := has{base: w.base, safe: l.End(), events: w.tried[w.base:l.End()], seqs: seqs{}}
	for _, e := range want.events {
		want.seqs[e.Pub] = e.Seq
	}
	wantLog(t, l, want)
	wantEachOnce(t, l)
	if t.Failed() {
		t.Fatal(what)
	}
	return l
}

// wantEachOnce holds a log against P17.2.
func wantEachOnce(t *testing.T, l *evlog.Log) {
	t.Helper()
	last, time := seqs{}, uint64(0)
	for n := l.Base(); n < l.End(); n++ {
		e, errno := l.Get(n)
		wantErrno(t, "Get", errno, api.OK)
		if had := last[e.Pub]; had > 0 && e.Seq != had+1 || e.Seq == 0 {
			t.Errorf("the event %d of publisher %d has the number %d, behind %d", n, e.Pub, e.Seq, had)
		}
		if e.At < time {
			t.Errorf("the event %d is of %d, behind %d", n, e.At, time)
		}
		last[e.Pub], time = e.Seq, e.At
	}
}

func TestWhatIsSafeStays(t *testing.T) {
	for _, r := range rows() {
		falls := 0
		eachFall(t, r, func(what string, fall func() *walked) {
			w := fall()
			l := w.wantStayed(t, what)
			falls++

			// It is so, opened again; behind a fall within opening, too.
			for acts := range 3 {
				w.d.Fuse(acts, 0)
				evlog.Open(w.d, w.most)
				w.d.Crash()
				w.d.Wake(nil)
				if end := l.End(); w.wantStayed(t, what+", again").End() != end {
					t.Fatalf("%s: opened again, the end isn't %d", what, end)
				}
			}
			l = w.wantStayed(t, what+", again")
			w.goesOn(t, what, l)
		})
		if falls < 100 {
			t.Errorf("just %d falls", falls)
		}
	}
}

// goesOn sends all events of each publisher again who is known: those that are there are old, the others are put, each once, behind what is there.
func (w *walked) goesOn(t *testing.T, what string, l *evlog.Log) {
	t.Helper()
	there := slices.Clone(w.tried[w.base:l.End()])
	var time uint64
	if n := len(there); n > 0 {
		time = there[n-1].At
	}
	for _, e := range slices.Concat(w.tried, w.tried) {
		last := l.Seq(e.Pub)
		if last == 0 {
			continue
		}
		_, errno := l.Publish(e.Pub, e.Seq, 0, e.Event)
		switch {
		case e.Seq <= last:
			wantErrno(t, what+": one that is there", errno, api.ErrOld)
		case e.Seq > last+1:
			wantErrno(t, what+": one behind a gap", errno, api.ErrGap)
		case errno == api.OK:
			e.At = time
			there = append(there, e)
		case errno != api.ErrFull:
			t.Fatalf("%s: Publish = %v", what, errno)
		}
	}
	wantErrno(t, what+": Sync", l.Sync(), api.OK)
	w.d.Crash()
	w.d.Wake(nil)
	w.tried = append(slices.Clone(w.tried[:w.base]), there...)
	w.safe = uint64(len(w.tried))
	w.wantStayed(t, what+", sent again")
}

// A row that isn't cut off at all has all its events, whatever falls behind it: nothing is lost that was made safe.
func TestWhatWasMadeSafeIsAllThere(t *testing.T) {
	for _, r := range rows() {
		r.calls = append(slices.Clone(r.calls), call{kind: syncIt})
		w := walk(t, r, 1<<20, 0)
		if w.safe != uint64(len(w.tried)) {
			t.Errorf("%d of %d events are safe", w.safe, len(w.tried))
		}
		w.d.Crash()
		w.d.Wake(nil)
		if l := w.wantStayed(t, "behind all"); l.End() != uint64(len(w.tried)) {
			t.Errorf("%d of %d events are there", l.End(), len(w.tried))
		}
	}
}

// What is told of an event that was cut off whole isn't that it is there; but opened again, it may be, and then it is old.
func TestAnEventThatWasCutOffWhole(t *testing.T) {
	for keep, stays := range map[int]bool{0: false, 5: false, short - 1: false, short: true} {
		d, l := opened(t)
		put(t, l, logged(1, 1, 5))
		wantErrno(t, "Sync", l.Sync(), api.OK)
		d.Fuse(0, short)
		wantRefused(t, l, 1, 2, 6, topic(1, 2), api.ErrDown)
		wantLog(t, l, has{safe: 1, events: []api.Logged{logged(1, 1, 5)}, seqs: seqs{1: 1}})
		d.Wake([]int{keep, keep})
		want := has{safe: 1, events: []api.Logged{logged(1, 1, 5)}, seqs: seqs{1: 1}}
		if stays {
			want = has{safe: 2, events: []api.Logged{logged(1, 1, 5), logged(1, 2, 6)}, seqs: seqs{1: 2}}
		}
		l = open(t, d, 2*short)
		wantLog(t, l, want)
		errno := api.OK
		if stays {
			errno = api.ErrOld
		}
		_, got := l.Publish(1, 2, 7, topic(1, 2))
		wantErrno(t, "Publish again", got, errno)
	}
}
