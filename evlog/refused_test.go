package evlog_test

import (
	"fmt"
	"math"
	"strings"
	"testing"

	"equerry/api"
	"equerry/disk"
	"equerry/evlog"
)

// P17.1: what is refused, and what the log is then

// wrong are events that may not be.
func wrong() []api.Event {
	of := func(v api.Value) api.Event { return api.Event{Topic: 3, Fields: []api.Value{{}, v}} }
	return []api.Event{
		{Fields: make([]api.Value, api.MaxFields+1)},
		{Fields: make([]api.Value, 256)},
		{Fields: make([]api.Value, 1<<16+1)},
		of(api.Value{Kind: 4}),
		of(api.Value{Kind: 255}),
		of(api.Value{Kind: api.Text, Text: strings.Repeat("a", api.MaxText+1)}),
		of(api.Value{Kind: api.Text, Int: 1}),
		of(api.Value{Int: 1}),
		of(api.Value{Text: "a"}),
		of(api.Value{Kind: api.Whole, Real: 1}),
		of(api.Value{Kind: api.Whole, Real: math.Copysign(0, -1)}),
		of(api.Value{Kind: api.Real, Int: 1}),
	}
}

func TestEventsThatMayNotBe(t *testing.T) {
	d, l := opened(t)
	put(t, l, logged(1, 1, 5))
	files := filesOf(d)
	for _, e := range wrong() {
		wantRefused(t, l, 1, 2, 6, e, api.ErrArg)
		wantRefused(t, l, 2, 1, 6, e, api.ErrArg)
	}
	wantLog(t, l, has{events: []api.Logged{logged(1, 1, 5)}, seqs: seqs{1: 1}})
	wantFiles(t, d, files)
	wantPut(t, l, 0, logged(1, 2, 5))
}

// far is a log whose end is some numbers below MaxIndex; the publisher 1 had the number 4.
func far(t *testing.T, below uint64) (*disk.Disk, *evlog.Log) {
	t.Helper()
	start := api.MaxIndex - below
	d := laid(t, map[string]string{"ev.m": manifest(start - 1), fmt.Sprintf("ev.%d", start-1): frames(logged(1, 4, 5))})
	l := open(t, d, 2*short)
	if l.End() != start {
		t.Fatalf("the end is %d, want %d", l.End(), start)
	}
	return d, l
}

func TestTheEndAtMaxIndex(t *testing.T) {
	d, l := far(t, 3)
	wantPut(t, l, 5, logged(1, 5, 5))
	wantPut(t, l, 6, logged(2, 1, 6))
	wantPut(t, l, 7, logged(1, 6, 7))
	if l.End() != api.MaxIndex {
		t.Fatalf("the end is %d", l.End())
	}
	want := has{base: api.MaxIndex - 4, safe: api.MaxIndex - 2, events: []api.Logged{logged(1, 4, 5), logged(1, 5, 5), logged(2, 1, 6), logged(1, 6, 7)}, seqs: seqs{1: 6, 2: 1}}
	for _, again := range []bool{false, true} {
		if again {
			l, want.safe = open(t, d, 2*short), api.MaxIndex
		}
		files := filesOf(d)
		for range 2 {
			wantRefused(t, l, 1, 7, 8, api.Event{}, api.ErrRange)
			wantRefused(t, l, 3, 1, 8, api.Event{}, api.ErrRange)
			wantRefused(t, l, 1, 6, 8, api.Event{}, api.ErrOld)
			wantRefused(t, l, 3, 2, 8, api.Event{}, api.ErrGap)
			wantLog(t, l, want)
		}
		wantFiles(t, d, files)
	}

	// What is there goes on being made safe, and trimmed.
	wantErrno(t, "Sync", l.Sync(), api.OK)
	wantErrno(t, "Trim", l.Trim(api.MaxIndex), api.OK)
	wantRefused(t, l, 1, 7, 8, api.Event{}, api.ErrRange)
	wantLog(t, l, has{base: api.MaxIndex - 2, safe: api.MaxIndex, events: want.events[2:], seqs: want.seqs})
}

// Of all errors that apply at once the first one is told, and nothing is done.
func TestTheOrderOfErrors(t *testing.T) {
	for _, below := range []uint64{0, 1} {
		for _, gone := range []bool{false, true} {
			for _, c := range []struct {
				seq, now uint64
				e        api.Event
				want     api.Errno
			}{
				{5, 5, wrong()[0], api.ErrArg},
				{4, 5, wrong()[0], api.ErrArg},
				{6, 5, wrong()[0], api.ErrArg},
				{5, api.MaxTime + 1, api.Event{}, api.ErrArg},
				{0, api.MaxTime + 1, api.Event{}, api.ErrArg},
				{9, api.MaxTime + 1, wrong()[3], api.ErrArg},
				{4, 5, api.Event{}, api.ErrOld},
				{0, 5, api.Event{}, api.ErrOld},
				{6, 5, api.Event{}, api.ErrGap},
				{math.MaxUint64, api.MaxTime, api.Event{}, api.ErrGap},
				{5, 5, api.Event{}, api.ErrRange},
				{5, 5, api.Event{}, api.ErrDown},
			} {
				if (c.want == api.ErrRange) != (below == 0) && (c.want == api.ErrRange || c.want == api.ErrDown) {
					continue
				}
				d, l := far(t, below)
				d.Fuse(0, 0)
				if gone {
					d.Crash()
					wantErrno(t, "Trim of nothing", l.Trim(0), api.OK)
					wantRefused(t, l, 1, 6, 5, api.Event{}, api.ErrGap)
				}
				was := has{base: l.Base(), safe: l.Safe(), events: []api.Logged{logged(1, 4, 5)}, seqs: seqs{1: 4}}
				wantRefused(t, l, 1, c.seq, c.now, c.e, c.want)
				wantLog(t, l, was)
				if !gone && d.Up() != (c.want != api.ErrDown) {
					t.Errorf("%v: the disk is up: %v", c, d.Up())
				}
			}
		}
	}
}

// wantAsItWas holds a log against what it was before an event of publisher 1, or of one of whom nothing is known, was refused; behind that it goes on, as if it had never been tried.
func wantAsItWas(t *testing.T, what string, l *evlog.Log, was has) {
	t.Helper()
	wantLog(t, l, was)
	for pub, last := range was.seqs {
		wantNumbers(t, l, pub, last)
	}
	wantNumbers(t, l, 5, 0)
	if t.Failed() {
		t.Fatal(what)
	}
}

func TestPublishOnAFullDisk(t *testing.T) {
	const room = 300
	for left := range short + 1 {
		d := newDisk(t, room)
		l := open(t, d, 100)
		put(t, l, logged(1, 1, 5), logged(2, 1, 6))
		wantErrno(t, "Append of the rest", d.Append("rest", make([]byte, room-d.Used()-left)), api.OK)
		files := filesOf(d)
		was := has{events: []api.Logged{logged(1, 1, 5), logged(2, 1, 6)}, seqs: seqs{1: 1, 2: 1}}
		if left < short {
			for _, pub := range []uint32{1, 5, 2} {
				wantRefused(t, l, pub, was.seqs[pub]+1, 90, api.Event{}, api.ErrFull)
				wantAsItWas(t, fmt.Sprintf("left %d", left), l, was)
				wantFiles(t, d, files)
			}
			wantErrno(t, "Delete of the rest", d.Delete("rest"), api.OK)
		}
		wantPut(t, l, 0, logged(1, 2, 6)) // the time of what was refused isn't the last one
	}
}

// A new segment is begun, and its event refused: the log is as it was, but that all that was there is safe.
func TestBeginningASegmentOnAFullDisk(t *testing.T) {
	const room = 300
	size := len(manifest(0, 2))
	for left := range size + short {
		d := newDisk(t, room)
		l := open(t, d, 2*short)
		put(t, l, logged(1, 1, 5), logged(2, 1, 6))
		wantErrno(t, "Append of the rest", d.Append("rest", make([]byte, room-d.Used()-left)), api.OK)
		was := has{safe: 2, events: []api.Logged{logged(1, 1, 5), logged(2, 1, 6)}, seqs: seqs{1: 1, 2: 1}}
		free := left - size + len(manifest(0)) // behind the manifest was written
		if left < size || free < short {
			wantRefused(t, l, 1, 2, 90, topic(1, 2), api.ErrFull)
			wantRefused(t, l, 5, 1, 90, api.Event{}, api.ErrFull)
			wantAsItWas(t, fmt.Sprintf("left %d", left), l, was)
			wantErrno(t, "Delete of the rest", d.Delete("rest"), api.OK)
		}
		wantPut(t, l, 7, logged(1, 2, 7))
		was.events, was.seqs[1] = append(was.events, logged(1, 2, 7)), 2
		wantLog(t, l, was)
	}
}

func TestPublishWithTooManyFiles(t *testing.T) {
	d, l := opened(t)
	for i := len(d.List()); i < api.MaxFiles; i++ {
		wantErrno(t, "Append of a file", d.Append(fmt.Sprint(i), nil), api.OK)
	}
	wantRefused(t, l, 1, 1, 5, api.Event{}, api.ErrFull)
	wantAsItWas(t, "no file", l, has{})
	wantErrno(t, "Delete", d.Delete("9"), api.OK)
	wantPut(t, l, 2, logged(1, 1, 2))
	wantPut(t, l, 3, logged(1, 2, 3))
	wantRefused(t, l, 1, 3, 5, api.Event{}, api.ErrFull) // no file for a new segment
	wantAsItWas(t, "no file more", l, has{safe: 2, events: []api.Logged{logged(1, 1, 2), logged(1, 2, 3)}, seqs: seqs{1: 2}})
	wantErrno(t, "Delete", d.Delete("10"), api.OK)
	wantPut(t, l, 0, logged(1, 3, 3))
	wantErrno(t, "Delete", d.Delete("11"), api.OK)
	wantErrno(t, "Trim", l.Trim(2), api.OK)
	wantLog(t, l, has{base: 2, safe: 2, events: []api.Logged{logged(1, 3, 3)}, seqs: seqs{1: 3}})
}

// Trim's and Sync's errors are layer 9's.
func TestTrimAndSyncThatAreRefused(t *testing.T) {
	d := newDisk(t, 300)
	l := open(t, d, 2*short)
	put(t, l, seven()...)
	wantErrno(t, "Append of the rest", d.Append("rest", make([]byte, 300-d.Used())), api.OK)
	was := has{safe: 6, events: seven(), seqs: seqs{1: 2, 2: 3, 3: 2}}
	wantErrno(t, "Trim on a full disk", l.Trim(4), api.ErrFull)
	wantAsItWas(t, "full", l, was)
	wantErrno(t, "Delete of the rest", d.Delete("rest"), api.OK)
	wantErrno(t, "Delete of the last segment", d.Delete("ev.6"), api.OK)
	wantErrno(t, "Sync without a file", l.Sync(), api.ErrNone)
	wantGone(t, d, l, was)
}

// P17.1: a log that is gone

// wantGone holds a log that is gone against what it still tells: nothing of it changes but what is noted, be the disk up again.
func wantGone(t *testing.T, d *disk.Disk, l *evlog.Log, want has) {
	t.Helper()
	for range 2 {
		up, files := d.Up(), filesOf(d)
		wantErrno(t, "Sync of a log that is gone", l.Sync(), api.ErrDown)
		for _, n := range []uint64{0, want.base, math.MaxUint64} {
			wantErrno(t, "Trim of a log that is gone", l.Trim(n), api.ErrDown)
		}
		for _, pub := range []uint32{1, 2, 5} {
			last := want.seqs[pub]
			wantRefused(t, l, pub, last, 99, api.Event{}, api.ErrOld)
			wantRefused(t, l, pub, last+2, 99, api.Event{}, api.ErrGap)
			wantRefused(t, l, pub, last+1, api.MaxTime+1, api.Event{}, api.ErrArg)
			wantRefused(t, l, pub, last+1, 99, wrong()[0], api.ErrArg)
			wantRefused(t, l, pub, last+1, 99, api.Event{}, api.ErrDown)
		}
		wantLog(t, l, want)
		if d.Up() != up {
			t.Error("the disk went down")
		}
		if up {
			wantFiles(t, d, files)
		}
		d.Wake(nil)
	}
	l.Note(2, want.seqs[2]+5)
	noted := has{base: want.base, safe: want.safe, events: want.events, seqs: seqs{}}
	for pub, last := range want.seqs {
		noted.seqs[pub] = last
	}
	noted.seqs[2] = want.seqs[2] + 5
	wantLog(t, l, noted)
	wantRefused(t, l, 2, noted.seqs[2], 99, api.Event{}, api.ErrOld)
	wantRefused(t, l, 2, noted.seqs[2]+1, 99, api.Event{}, api.ErrDown)
}

// Whatever is cut off: an event, at each of its bytes, the steps of a new segment, Sync, Trim.
func TestALogWhoseDiskGoesDown(t *testing.T) {
	published := func(l *evlog.Log) api.Errno {
		n, errno := l.Publish(2, 4, 50, topic(2, 4))
		if (n == 7) != (errno == api.OK) || errno != api.OK && n != 0 {
			t.Errorf("Publish = %d, %v", n, errno)
		}
		return errno
	}
	trimmed := func(l *evlog.Log) api.Errno { return l.Trim(4) }
	for _, c := range []struct {
		what   string
		count  int // events that are there
		acts   int // of the call
		call   func(*evlog.Log) api.Errno
		safe   int // the act behind which the last segment is safe
		trims  int // the act behind which it is trimmed
		events []api.Logged
	}{
		{"an event", 7, 1, published, 99, 99, seven()},
		{"an event of a new segment", 6, 6, func(l *evlog.Log) api.Errno {
			_, errno := l.Publish(1, 3, 50, topic(1, 3))
			return errno
		}, 1, 99, seven()[:6]},
		{"Sync", 7, 1, (*evlog.Log).Sync, 99, 99, seven()},
		{"Trim", 7, 6, trimmed, 99, 4, seven()},
	} {
		for acts := range c.acts + 1 {
			for _, keep := range []int{0, 1, 7, short} {
				d, l := opened(t)
				put(t, l, c.events...)
				want := has{safe: l.Safe(), events: c.events, seqs: seqs{}}
				for _, e := range c.events {
					want.seqs[e.Pub] = e.Seq
				}
				if acts >= c.safe {
					want.safe = 6
				}
				if acts >= c.trims {
					want.base, want.events = 4, c.events[4:]
				}
				d.Fuse(acts, keep)
				if acts == c.acts {
					wantErrno(t, c.what, c.call(l), api.OK)
					if !d.Up() {
						t.Errorf("%s is of more acts than %d", c.what, acts)
					}
					continue
				}
				wantErrno(t, fmt.Sprintf("%s with a fuse of %d, %d", c.what, acts, keep), c.call(l), api.ErrDown)
				wantGone(t, d, l, want)
			}
		}
	}
}

// A disk that is down is met by the first act; till then the log tells, and isn't gone.
func TestADiskThatIsDown(t *testing.T) {
	for _, call := range []func(*evlog.Log) api.Errno{
		(*evlog.Log).Sync,
		func(l *evlog.Log) api.Errno { return l.Trim(2) },
		func(l *evlog.Log) api.Errno { _, errno := l.Publish(1, 3, 5, api.Event{}); return errno },
	} {
		d, l := opened(t)
		put(t, l, seven()...)
		d.Crash()
		want := has{safe: 6, events: seven(), seqs: seqs{1: 2, 2: 3, 3: 2}}
		wantLog(t, l, want)
		wantErrno(t, "the call", call(l), api.ErrDown)
		wantGone(t, d, l, want)
		wantLog(t, open(t, d, 2*short), has{safe: 6, events: seven()[:6], seqs: seqs{1: 2, 2: 2, 3: 2}})
	}
}

// What can't be made safe isn't to be trusted: the event ahead of which that was tried is refused with the disk's error.
func TestALogThatCanNotBeMadeSafe(t *testing.T) {
	d, l := opened(t)
	put(t, l, seven()[:2]...)
	wantErrno(t, "Delete", d.Delete("ev.0"), api.OK)
	wantRefused(t, l, 2, 1, 50, api.Event{}, api.ErrNone)
	wantGone(t, d, l, has{events: seven()[:2], seqs: seqs{1: 2}})
	if !d.Up() {
		t.Error("the disk is down")
	}
}
