package seglog_test

import (
	"fmt"
	"slices"
	"testing"

	"equerry/api"
	"equerry/disk"
	"equerry/seglog"
)

// P9.2, P9.3

// again opens the log anew, without a fall.
const again = "again"

// row is what a log is told, on a disk of a room, with segments of most bytes.
type row struct {
	room, most int
	steps      []step
}

// calls are steps: a text is appended, a number is trimmed to.
func calls(each ...any) []step {
	var steps []step
	for _, one := range each {
		switch x := one.(type) {
		case int:
			steps = append(steps, trimmed(uint64(x)))
		case string:
			steps = append(steps, appended(x))
		case step:
			steps = append(steps, x)
		}
	}
	return steps
}

func rows() []row {
	sync, open := synced(), step{name: again}
	return []row{
		{1000, 18, calls("a", "b", sync, "c", "d", 2, "e", sync, "f", open, "g", 5, "h", "i", 100, open, sync, "long", "", "j")},
		{1000, 1, calls("a", sync, sync, "b", "c", 1, "d", open, open, "e", 3, sync, "f", 6, "g")},
		{1000, 100, calls("a", "", "bc", sync, "def", open, 3, "g", "h", "i")},
		{1000, 9, calls(0, sync, open, "", "", "", 2, "", open, "", sync, 9, "")},
		{62, 18, calls("a", "b", "c", "d", sync, "e", 2, "f", "g", 4, "h", "i", sync, open, "j", 9, "k", "l")},
	}
}

// walked is how far a row came: what the log told last, and the records that were told to it and not refused.
type walked struct {
	d          *disk.Disk
	most       int
	base, safe uint64
	segments   []uint64
	tried      []string
}

// walk goes through a row, up to its end or a fall at an act.
func walk(t *testing.T, r row, acts, keep int) *walked {
	t.Helper()
	w := &walked{d: newDisk(t, r.room), most: r.most, segments: []uint64{0}}
	w.d.Fuse(acts, keep)
	l, errno := seglog.Open(w.d, "log", r.most)
	for _, s := range r.steps {
		if errno == api.ErrDown {
			break
		}
		if s.name == again {
			l, errno = seglog.Open(w.d, "log", r.most)
		} else {
			errno = s.call(l)
		}
		if s.name == "Append" && errno != api.ErrFull {
			w.tried = append(w.tried, s.record)
		}
		if l != nil {
			w.base, w.safe, w.segments = l.Base(), l.Safe(), l.Segments()
		}
	}
	return w
}

// eachFall is each way in which a row falls: at each act, or behind the last one, with each number of bytes that are put on and that are kept. Each is told by a function that lets it fall anew.
func eachFall(t *testing.T, r row, do func(what string, fall func() *walked)) {
	t.Helper()
	for acts := 0; ; acts++ {
		none := walk(t, r, acts, 0)
		for keep := 0; ; keep++ {
			w := walk(t, r, acts, keep)
			if keep > 0 && w.d.Used() == none.d.Used() { // as many bytes as there are, and 1, are none
				break
			}
			eachKeep(len(w.d.List()), func(kept []int) int {
				fall := func() *walked {
					w := walk(t, r, acts, keep)
					w.d.Crash()
					w.d.Wake(kept)
					return w
				}
				do(fmt.Sprintf("room %d, most %d, fuse %d, %d, kept %v", r.room, r.most, acts, keep, kept), fall)
				return fall().d.Used()
			})
		}
		if none.d.Up() {
			return
		}
	}
}

// eachKeep is each number of bytes kept of each file, alone and as many of all others; used is how many bytes are there then.
func eachKeep(files int, used func(kept []int) int) {
	none := used(nil)
	for file := range files {
		for n := 1; ; n++ {
			kept := make([]int, files)
			kept[file] = n
			if used(kept) == none {
				break
			}
			used(slices.Repeat([]int{n}, files))
		}
	}
}

// wantStayed opens a log behind a fall, and holds it against what has to be there.
func (w *walked) wantStayed(t *testing.T, what string) *seglog.Log {
	t.Helper()
	l, errno := seglog.Open(w.d, "log", w.most)
	if errno != api.OK {
		t.Fatalf("%s: Open = %v", what, errno)
	}
	if l.Base() != w.base || !slices.Equal(l.Segments(), w.segments) {
		t.Fatalf("%s: segments %v, want %v", what, l.Segments(), w.segments)
	}
	if l.End() < w.safe || l.End() > uint64(len(w.tried)) || l.Safe() != l.End() {
		t.Fatalf("%s: safe %d, end %d, want from %d to %d", what, l.Safe(), l.End(), w.safe, len(w.tried))
	}
	if got, want := texts(l.All()), w.tried[w.base:l.End()]; !slices.Equal(got, want) {
		t.Fatalf("%s: All = %q, want %q", what, got, want)
	}
	for n := w.base; n < l.End(); n++ {
		if got, errno := l.Get(n); errno != api.OK || string(got) != w.tried[n] {
			t.Fatalf("%s: Get(%d) = %q, %v, want %q", what, n, got, errno, w.tried[n])
		}
	}
	w.wantNothingElse(t, what, l)
	return l
}

// wantNothingElse holds a disk against the files of a log that was opened: the last segment may have none, if it has no records.
func (w *walked) wantNothingElse(t *testing.T, what string, l *seglog.Log) {
	t.Helper()
	want := map[string]string{"log.m": string(manifest(w.segments...))}
	for i, start := range w.segments {
		end := l.End()
		if i+1 < len(w.segments) {
			end = w.segments[i+1]
		}
		want[fmt.Sprintf("log.%d", start)] = string(frames(w.tried[start:end]...))
	}
	for _, name := range w.d.List() {
		if b, _ := w.d.Read(name); w.d.Safe(name) != len(b) {
			t.Fatalf("%s: of %s %d bytes are safe, of %d", what, name, w.d.Safe(name), len(b))
		}
	}
	got := filesOf(w.d)
	for name := range got {
		if _, there := want[name]; !there {
			t.Fatalf("%s: there is %s", what, name)
		}
	}
	for name, b := range want {
		if string(got[name]) != b {
			t.Fatalf("%s: %s is %q, want %q", what, name, got[name], b)
		}
	}
}

func TestWhatIsSafeStays(t *testing.T) {
	for _, r := range rows() {
		falls := 0
		eachFall(t, r, func(what string, fall func() *walked) {
			w := fall()
			l := w.wantStayed(t, what)
			falls++

			// The log goes on from there.
			next := "next"
			if errno := l.Append([]byte(next)); errno == api.OK {
				w.tried = append(w.tried[:l.End()-1:l.End()-1], next)
				wantErrno(t, what+": Sync", l.Sync(), api.OK)
				w.base, w.safe, w.segments = l.Base(), l.Safe(), l.Segments()
				w.wantStayed(t, what+", and next")
			} else if r.room > 100 || errno != api.ErrFull {
				t.Fatalf("%s: Append = %v", what, errno)
			}
		})
		if falls < 100 {
			t.Errorf("just %d falls", falls)
		}
	}
}

// A row that isn't cut off at all has all its records, whatever falls behind it: nothing is lost that was made safe.
func TestWhatWasMadeSafeIsAllThere(t *testing.T) {
	for _, r := range rows() {
		r.steps = append(slices.Clone(r.steps), synced())
		w := walk(t, r, 1<<20, 0)
		if w.safe != uint64(len(w.tried)) {
			t.Errorf("%d of %d records are safe", w.safe, len(w.tried))
		}
		w.d.Crash()
		w.d.Wake(nil)
		if l := w.wantStayed(t, "behind all"); l.End() != uint64(len(w.tried)) {
			t.Errorf("%d of %d records are there", l.End(), len(w.tried))
		}
	}
}

// state is all that a log and its disk tell.
func state(l *seglog.Log, d *disk.Disk) string {
	return fmt.Sprint(l.Base(), l.End(), l.Safe(), l.Segments(), texts(l.All()), filesOf(d))
}

func TestOpeningAgainChangesNothing(t *testing.T) {
	for _, r := range rows() {
		eachFall(t, r, func(what string, fall func() *walked) {
			w := fall()
			was := state(w.wantStayed(t, what), w.d)
			for range 3 {
				if is := state(w.wantStayed(t, what+", again"), w.d); is != was {
					t.Fatalf("%s: opened again %s, was %s", what, is, was)
				}
			}
			// Of another most, too.
			for _, most := range []int{1, 9, api.MaxDisk} {
				l, errno := seglog.Open(w.d, "log", most)
				if errno != api.OK || state(l, w.d) != was {
					t.Fatalf("%s: opened with most %d it changes", what, most)
				}
			}
		})
	}
}

func TestAFallWithinOpeningChangesNothing(t *testing.T) {
	for _, r := range rows() {
		eachFall(t, r, func(what string, fall func() *walked) {
			w := fall()
			was := state(w.wantStayed(t, what), w.d)
			for acts := 0; ; acts++ {
				down := true
				for _, keep := range []int{0, 1, 8, 11} {
					w := fall()
					w.d.Fuse(acts, keep)
					l, errno := seglog.Open(w.d, "log", w.most)
					down = !w.d.Up()
					if down != (errno == api.ErrDown) || down != (l == nil) {
						t.Fatalf("%s, fuse %d: Open = %v, %v", what, acts, l, errno)
					}
					w.d.Crash()
					w.d.Wake([]int{keep, keep, keep, keep, keep, keep})
					if is := state(w.wantStayed(t, what+", again"), w.d); is != was {
						t.Fatalf("%s, fuse %d, %d: opened again %s, was %s", what, acts, keep, is, was)
					}
				}
				if !down {
					break
				}
			}
		})
	}
}

// It may fall within opening time and again, each time at the first act, then at the second one, and so on.
func TestManyFallsWithinOpening(t *testing.T) {
	for _, r := range rows() {
		eachFall(t, r, func(what string, fall func() *walked) {
			w := fall()
			was := state(w.wantStayed(t, what), w.d)
			w = fall()
			for n := range 12 {
				w.d.Fuse(n/2, n%3*5)
				seglog.Open(w.d, "log", w.most)
				w.d.Crash()
				w.d.Wake([]int{n, n + 1, n, n + 2, n})
			}
			if is := state(w.wantStayed(t, what+", again"), w.d); is != was {
				t.Fatalf("%s: opened again %s, was %s", what, is, was)
			}
		})
	}
}

// Without a fall ahead of it, opening finds records that aren't safe: a fall within it may leave a beginning of these.
func TestAFallWithinOpeningWhereRecordsAreNotSafe(t *testing.T) {
	r := row{1000, 100, calls("a", "b", synced(), "cd", "", "e", step{name: again})}
	short := r
	short.steps = r.steps[:len(r.steps)-1]
	acts := 0
	for !walk(t, short, acts, 0).d.Up() { // how many acts there are ahead of opening again
		acts++
	}
	ends := map[uint64]int{}
	for n := range 5 {
		for kept := range 28 {
			w := walk(t, r, acts+n, 0)
			w.d.Crash()
			w.d.Wake([]int{kept})
			ends[w.wantStayed(t, fmt.Sprintf("fuse %d, kept %d", acts+n, kept)).End()]++
		}
	}
	for end := uint64(2); end <= 5; end++ {
		if ends[end] == 0 {
			t.Errorf("no fall leaves %d records: %v", end, ends)
		}
	}
}
