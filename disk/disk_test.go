package disk_test

import (
	"bytes"
	"fmt"
	"math"
	"runtime"
	"slices"
	"strings"
	"testing"

	"equerry/api"
	"equerry/disk"
)

// made is a disk of that room.
func made(t *testing.T, room int) *disk.Disk {
	t.Helper()
	d, errno := disk.New(room)
	if errno != api.OK || d == nil {
		t.Fatalf("New(%d): %v, %d", room, d, errno)
	}
	return d
}

// with is a disk of room 100 that has files: a name and a text by turns, none of them safe.
func with(t *testing.T, files ...string) *disk.Disk {
	t.Helper()
	d := made(t, 100)
	for i := 0; i < len(files); i += 2 {
		wantErrno(t, "Append("+files[i]+")", d.Append(files[i], []byte(files[i+1])), api.OK)
	}
	return d
}

func wantErrno(t *testing.T, what string, got, want api.Errno) {
	t.Helper()
	if got != want {
		t.Errorf("%s: %d, not %d", what, int(got), int(want))
	}
}

func wantFile(t *testing.T, d *disk.Disk, name, text string, safe int) {
	t.Helper()
	b, errno := d.Read(name)
	if errno != api.OK || string(b) != text {
		t.Errorf("Read(%q): %q, %d, not %q", name, b, int(errno), text)
	}
	if got := d.Safe(name); got != safe {
		t.Errorf("Safe(%q): %d, not %d", name, got, safe)
	}
}

func wantNoFile(t *testing.T, d *disk.Disk, name string) {
	t.Helper()
	b, errno := d.Read(name)
	if errno != api.ErrNone || len(b) > 0 {
		t.Errorf("Read(%q): %q, %d, not none", name, b, int(errno))
	}
	if got := d.Safe(name); got != 0 {
		t.Errorf("Safe(%q): %d, though it isn't there", name, got)
	}
}

func wantList(t *testing.T, d *disk.Disk, names ...string) {
	t.Helper()
	if got := d.List(); !slices.Equal(got, names) {
		t.Errorf("List(): %q, not %q", got, names)
	}
}

func wantUsed(t *testing.T, d *disk.Disk, n int) {
	t.Helper()
	if got := d.Used(); got != n {
		t.Errorf("Used(): %d, not %d", got, n)
	}
}

func wantState(t *testing.T, d *disk.Disk, up bool, falls int) {
	t.Helper()
	if d.Up() != up || d.Falls() != falls {
		t.Errorf("Up(), Falls(): %v, %d, not %v, %d", d.Up(), d.Falls(), up, falls)
	}
}

// allActs are an act of each kind, all of which are answered OK, if there are files a and b, of at least one byte.
func allActs() []call {
	return []call{
		{kind: appendTo, name: "a", to: "more"}, {kind: sync, name: "a"}, {kind: rename, name: "a", to: "c"},
		{kind: truncate, name: "a", n: 1}, {kind: deleteIt, name: "a"},
	}
}

// refusedActs are acts that are answered with an error, if there are files a and b in a disk of room 100.
func refusedActs() []struct {
	call
	want api.Errno
} {
	type refused = struct {
		call
		want api.Errno
	}
	return []refused{
		{call{kind: appendTo, name: "", to: "x"}, api.ErrArg}, {call{kind: appendTo, name: "a", to: strings.Repeat("x", 101)}, api.ErrFull},
		{call{kind: appendTo, name: "n", to: strings.Repeat("x", 101)}, api.ErrFull}, {call{kind: sync, name: "n"}, api.ErrNone},
		{call{kind: rename, name: "a", to: ""}, api.ErrArg}, {call{kind: rename, name: "n", to: "a"}, api.ErrNone},
		{call{kind: truncate, name: "a", n: -1}, api.ErrArg}, {call{kind: truncate, name: "a", n: 101}, api.ErrArg},
		{call{kind: truncate, name: "n", n: 0}, api.ErrNone}, {call{kind: deleteIt, name: "n"}, api.ErrNone},
	}
}

func TestTheChaptersExample(t *testing.T) {
	d := with(t, "a", "xy")
	d.Crash()
	d.Wake([]int{1})
	wantFile(t, d, "a", "x", 1)
}

func TestRooms(t *testing.T) {
	for _, room := range []int{math.MinInt, math.MinInt32, -1, api.MaxDisk + 1, math.MaxInt32, math.MaxInt} {
		if d, errno := disk.New(room); errno != api.ErrArg || d != nil {
			t.Errorf("New(%d): %v, %d", room, d, errno)
		}
	}
	for _, room := range []int{0, 1, 2, 1000, api.MaxDisk - 1, api.MaxDisk} {
		d := made(t, room)
		wantState(t, d, true, 0)
		wantList(t, d)
		wantUsed(t, d, 0)
		wantNoFile(t, d, "a")
		wantErrno(t, "Append of one byte too many", d.Append("a", make([]byte, room+1)), api.ErrFull)
		wantList(t, d)
		wantErrno(t, "Append of just so many", d.Append("a", make([]byte, room)), api.OK)
		wantUsed(t, d, room)
		for _, name := range []string{"a", "b"} {
			wantErrno(t, "Append of one more", d.Append(name, []byte("x")), api.ErrFull)
			wantErrno(t, "Append of none more", d.Append(name, nil), api.OK)
		}
		wantUsed(t, d, room)
		wantList(t, d, "a", "b")
	}
}

func TestNames(t *testing.T) {
	long := strings.Repeat("n", 32)
	good := []string{"a", "\x00", "\xff", " ", "/", "..", "é", long, long[:31] + "\xff", strings.Repeat("\x00", 32)}
	bad := []string{"", long + "n", strings.Repeat("\x00", 33), strings.Repeat("é", 17), strings.Repeat("n", 1<<16)}
	for _, name := range good {
		d := with(t, "q", "xy")
		wantErrno(t, fmt.Sprintf("Append(%q)", name), d.Append(name, []byte("abc")), api.OK)
		wantErrno(t, fmt.Sprintf("Sync(%q)", name), d.Sync(name), api.OK)
		wantFile(t, d, name, "abc", 3)
		wantErrno(t, fmt.Sprintf("Rename(%q)", name), d.Rename("q", name), api.OK)
		wantFile(t, d, name, "xy", 0)
		wantList(t, d, name)
		wantErrno(t, fmt.Sprintf("Truncate(%q)", name), d.Truncate(name, 1), api.OK)
		wantErrno(t, fmt.Sprintf("Delete(%q)", name), d.Delete(name), api.OK)
		wantList(t, d)
	}
	for _, name := range bad {
		d := with(t, "q", "xy")
		for _, b := range [][]byte{nil, []byte("x"), make([]byte, 101)} {
			wantErrno(t, fmt.Sprintf("Append(%d bytes)", len(name)), d.Append(name, b), api.ErrArg)
		}
		wantErrno(t, fmt.Sprintf("Rename(%d bytes)", len(name)), d.Rename("q", name), api.ErrArg)
		wantErrno(t, "Rename of itself", d.Rename(name, name), api.ErrArg)
		wantErrno(t, "Rename of what is no name", d.Rename(name, "z"), api.ErrNone)
		wantErrno(t, "Sync", d.Sync(name), api.ErrNone)
		wantErrno(t, "Truncate", d.Truncate(name, -1), api.ErrNone)
		wantErrno(t, "Delete", d.Delete(name), api.ErrNone)
		wantNoFile(t, d, name)
		wantList(t, d, "q")
		wantFile(t, d, "q", "xy", 0)
	}
}

func TestNamesThatDifferByLittle(t *testing.T) {
	long := strings.Repeat("n", 31)
	names := []string{"a", "A", "a\x00", "aa", "\xc3\xa9", "e\xcc\x81", long, long + "m", long + "o"}
	d := made(t, 1000)
	for i, name := range names {
		wantErrno(t, "Append", d.Append(name, []byte(strings.Repeat("x", i))), api.OK)
	}
	for i, name := range names {
		wantFile(t, d, name, strings.Repeat("x", i), 0)
	}
	wantList(t, d, slices.Sorted(slices.Values(names))...)
}

func TestAppend(t *testing.T) {
	d := with(t, "a", "ab", "b", "", "a", "", "a", "c", "b", "x", "a", "\x00\xff")
	wantFile(t, d, "a", "abc\x00\xff", 0)
	wantFile(t, d, "b", "x", 0)
	wantUsed(t, d, 6)
	wantErrno(t, "Sync(a)", d.Sync("a"), api.OK)
	wantErrno(t, "Append(a)", d.Append("a", []byte("yz")), api.OK)
	wantFile(t, d, "a", "abc\x00\xffyz", 5)
	wantFile(t, d, "b", "x", 0)
	wantUsed(t, d, 8)
}

func TestAppendOfNoBytes(t *testing.T) {
	for _, none := range [][]byte{nil, {}} {
		d := made(t, 0)
		wantErrno(t, "Append that makes a file", d.Append("a", none), api.OK)
		wantList(t, d, "a")
		wantFile(t, d, "a", "", 0)
		wantErrno(t, "Append to a file", d.Append("a", none), api.OK)
		wantErrno(t, "Sync", d.Sync("a"), api.OK)
		wantFile(t, d, "a", "", 0)
		d.Crash()
		d.Wake([]int{5})
		wantList(t, d, "a")
		wantFile(t, d, "a", "", 0)
		d = with(t, "b", "xyz")
		wantErrno(t, "Sync", d.Sync("b"), api.OK)
		wantErrno(t, "Append to a file with bytes", d.Append("b", none), api.OK)
		wantFile(t, d, "b", "xyz", 3)
	}
}

// What is given back of the room counts at once.
func TestRoomIsGivenBack(t *testing.T) {
	full := func() *disk.Disk {
		d := made(t, 10)
		wantErrno(t, "Append(a)", d.Append("a", []byte("1234")), api.OK)
		wantErrno(t, "Append(b)", d.Append("b", []byte("123456")), api.OK)
		wantErrno(t, "Append to a full disk", d.Append("c", []byte("1")), api.ErrFull)
		return d
	}
	ways := []struct {
		what string
		free int
		do   func(d *disk.Disk)
	}{
		{"nothing", 0, func(d *disk.Disk) {}},
		{"Sync", 0, func(d *disk.Disk) { d.Sync("a") }},
		{"Rename", 0, func(d *disk.Disk) { d.Rename("a", "z") }},
		{"Rename onto another", 6, func(d *disk.Disk) { d.Rename("a", "b") }},
		{"Rename onto another, the other way", 4, func(d *disk.Disk) { d.Rename("b", "a") }},
		{"Rename to itself", 0, func(d *disk.Disk) { d.Rename("a", "a") }},
		{"Truncate", 3, func(d *disk.Disk) { d.Truncate("b", 3) }},
		{"Delete", 4, func(d *disk.Disk) { d.Delete("a") }},
		{"a fall", 8, func(d *disk.Disk) { d.Crash(); d.Wake([]int{2}) }},
		{"a fall, some of it safe", 5, func(d *disk.Disk) { d.Sync("a"); d.Crash(); d.Wake([]int{9, 1}) }},
	}
	for _, w := range ways {
		for _, more := range []int{0, 1} {
			d := full()
			w.do(d)
			wantUsed(t, d, 10-w.free)
			want := api.OK
			if more > 0 {
				want = api.ErrFull
			}
			wantErrno(t, fmt.Sprintf("%s: Append of %d", w.what, w.free+more), d.Append("c", make([]byte, w.free+more)), want)
		}
	}
}

func TestManyFiles(t *testing.T) {
	name := func(i int) string { return fmt.Sprintf("f%03d", i) }
	d := made(t, 1000)
	for i := range 256 {
		wantErrno(t, "Append", d.Append(name(i), []byte("xy")[:i%3]), api.OK)
	}
	used := d.Used()
	for _, b := range []string{"", "z"} {
		wantErrno(t, "Append to one more", d.Append("g", []byte(b)), api.ErrFull)
		wantErrno(t, "Append to what is no name", d.Append("", []byte(b)), api.ErrArg)
		wantErrno(t, "Append to the first one", d.Append(name(0), []byte(b)), api.OK)
		wantErrno(t, "Append to the last one", d.Append(name(255), []byte(b)), api.OK)
	}
	wantUsed(t, d, used+2)
	if got := d.List(); len(got) != 256 || got[0] != "f000" || got[255] != "f255" {
		t.Errorf("List(): %q", got)
	}
	wantErrno(t, "Rename to a new name", d.Rename(name(7), "g"), api.OK)
	wantErrno(t, "Append to the old name", d.Append(name(7), nil), api.ErrFull)
	wantErrno(t, "Rename onto another", d.Rename("g", name(8)), api.OK)
	wantErrno(t, "Append to a 256th", d.Append("h", nil), api.OK)
	wantErrno(t, "Append to a 257th", d.Append("i", nil), api.ErrFull)
	wantErrno(t, "Delete", d.Delete(name(9)), api.OK)
	wantErrno(t, "Append to the 256th", d.Append("i", nil), api.OK)
	d.Crash()
	d.Wake(nil)
	wantErrno(t, "Append to a 257th behind a fall", d.Append("j", nil), api.ErrFull)
	if got := len(d.List()); got != 256 {
		t.Errorf("List(): %d names", got)
	}
}

// Where the file isn't there, and there are MaxFiles, or there is no room: one error, whichever it is.
func TestWhichErrorComesFirst(t *testing.T) {
	d := with(t, "a", "abc", "b", "de")
	for _, r := range refusedActs() {
		wantErrno(t, r.String(), r.answer(d), r.want)
	}
	wantErrno(t, "Append: no name, no room", d.Append("", make([]byte, 101)), api.ErrArg)
	wantErrno(t, "Rename: no name, nothing there", d.Rename("n", ""), api.ErrArg)
	wantErrno(t, "Rename: no name, from none", d.Rename("", ""), api.ErrArg)
	wantErrno(t, "Truncate: nothing there, below 0", d.Truncate("n", -1), api.ErrNone)
	wantErrno(t, "Truncate: nothing there, beyond it", d.Truncate("n", 1), api.ErrNone)
	wantFile(t, d, "a", "abc", 0)
	wantFile(t, d, "b", "de", 0)
	wantList(t, d, "a", "b")
	wantState(t, d, true, 0)
}

func TestADiskThatIsDownSaysSoFirst(t *testing.T) {
	d := with(t, "a", "abc", "b", "de")
	wantErrno(t, "Sync", d.Sync("b"), api.OK)
	d.Crash()
	for _, c := range allActs() {
		wantErrno(t, c.String(), c.answer(d), api.ErrDown)
	}
	for _, r := range refusedActs() {
		wantErrno(t, r.String(), r.answer(d), api.ErrDown)
	}
	wantErrno(t, "Rename", d.Rename("a", strings.Repeat("x", 33)), api.ErrDown)
	for _, name := range []string{"a", "b", "n", ""} {
		if b, errno := d.Read(name); errno != api.ErrDown || len(b) > 0 {
			t.Errorf("Read(%q): %q, %d", name, b, int(errno))
		}
	}
	wantState(t, d, false, 1)
	// what is asked of a disk that is down is as it was
	wantList(t, d, "a", "b")
	wantUsed(t, d, 5)
	if d.Safe("a") != 0 || d.Safe("b") != 2 || d.Safe("n") != 0 {
		t.Errorf("Safe: %d, %d, %d", d.Safe("a"), d.Safe("b"), d.Safe("n"))
	}
	d.Wake([]int{3})
	wantFile(t, d, "a", "abc", 3)
	wantFile(t, d, "b", "de", 2)
	wantState(t, d, true, 1)
}

func TestSync(t *testing.T) {
	d := with(t, "a", "abc", "b", "de")
	wantErrno(t, "Sync(a)", d.Sync("a"), api.OK)
	wantFile(t, d, "a", "abc", 3)
	wantFile(t, d, "b", "de", 0)
	wantErrno(t, "Append(a)", d.Append("a", []byte("f")), api.OK)
	wantFile(t, d, "a", "abcf", 3)
	wantErrno(t, "Sync(a)", d.Sync("a"), api.OK)
	wantErrno(t, "Sync(a)", d.Sync("a"), api.OK)
	wantFile(t, d, "a", "abcf", 4)
	for _, name := range []string{"c", "", "A", "ab"} {
		wantErrno(t, "Sync("+name+")", d.Sync(name), api.ErrNone)
	}
	wantList(t, d, "a", "b")
}

func TestRename(t *testing.T) {
	fresh := func() *disk.Disk {
		d := with(t, "a", "abc", "b", "de")
		d.Sync("a")
		d.Append("a", []byte("f"))
		return d
	}
	d := fresh()
	wantErrno(t, "Rename to a new name", d.Rename("a", "c"), api.OK)
	wantNoFile(t, d, "a")
	wantFile(t, d, "c", "abcf", 3)
	wantList(t, d, "b", "c")

	d = fresh()
	wantErrno(t, "Rename to one that is there", d.Rename("a", "b"), api.OK)
	wantNoFile(t, d, "a")
	wantFile(t, d, "b", "abcf", 3)
	wantList(t, d, "b")
	wantUsed(t, d, 4)

	d = fresh()
	wantErrno(t, "the other way", d.Rename("b", "a"), api.OK)
	wantNoFile(t, d, "b")
	wantFile(t, d, "a", "de", 0)
	wantList(t, d, "a")

	d = fresh()
	wantErrno(t, "Rename to itself", d.Rename("a", "a"), api.OK)
	wantFile(t, d, "a", "abcf", 3)
	wantErrno(t, "Rename of nothing to itself", d.Rename("n", "n"), api.ErrNone)
	wantErrno(t, "Rename of nothing", d.Rename("n", "a"), api.ErrNone)
	wantErrno(t, "Rename to no name", d.Rename("a", ""), api.ErrArg)
	wantErrno(t, "Rename to no name", d.Rename("a", strings.Repeat("x", 33)), api.ErrArg)
	wantFile(t, d, "a", "abcf", 3)
	wantFile(t, d, "b", "de", 0)
	wantList(t, d, "a", "b")
}

// The files behind a Rename are two: what is put into one isn't in the other.
func TestAnOldNameIsFree(t *testing.T) {
	d := with(t, "a", "abc")
	wantErrno(t, "Rename", d.Rename("a", "b"), api.OK)
	wantErrno(t, "Append to the old name", d.Append("a", []byte("xy")), api.OK)
	wantErrno(t, "Append to the new name", d.Append("b", []byte("de")), api.OK)
	wantErrno(t, "Sync", d.Sync("a"), api.OK)
	wantFile(t, d, "a", "xy", 2)
	wantFile(t, d, "b", "abcde", 0)
	wantErrno(t, "Delete", d.Delete("b"), api.OK)
	wantErrno(t, "Append", d.Append("b", []byte("z")), api.OK)
	wantFile(t, d, "b", "z", 0)
	wantFile(t, d, "a", "xy", 2)
}

func TestRenameOutlastsAFall(t *testing.T) {
	d := with(t, "a", "abc", "b", "de")
	d.Sync("a")
	d.Append("a", []byte("fg"))
	d.Rename("a", "b")
	d.Crash()
	d.Wake([]int{1})
	wantList(t, d, "b")
	wantFile(t, d, "b", "abcf", 4)
}

func TestTruncate(t *testing.T) {
	const text = "abcdefg"
	for safe := range len(text) + 1 {
		for _, n := range []int{math.MinInt, -8, -1, 0, 1, 2, 3, 4, 5, 6, 7, 8, 9, math.MaxInt32, math.MaxInt} {
			d := with(t, "a", text[:safe])
			d.Sync("a")
			d.Append("a", []byte(text[safe:]))
			d.Append("b", []byte("xy"))
			if n < 0 || n > len(text) {
				wantErrno(t, fmt.Sprintf("Truncate(%d)", n), d.Truncate("a", n), api.ErrArg)
				wantFile(t, d, "a", text, safe)
				wantUsed(t, d, len(text)+2)
				continue
			}
			wantErrno(t, fmt.Sprintf("Truncate(%d)", n), d.Truncate("a", n), api.OK)
			wantFile(t, d, "a", text[:n], min(n, safe))
			wantFile(t, d, "b", "xy", 0)
			wantUsed(t, d, n+2)
			wantList(t, d, "a", "b")
			wantErrno(t, "Append", d.Append("a", []byte("XYZ")), api.OK)
			wantFile(t, d, "a", text[:n]+"XYZ", min(n, safe))
			d.Crash()
			d.Wake(nil)
			wantFile(t, d, "a", text[:min(n, safe)], min(n, safe))
		}
	}
}

func TestDelete(t *testing.T) {
	d := with(t, "a", "abc", "b", "de", "c", "")
	d.Sync("a")
	wantErrno(t, "Delete(a)", d.Delete("a"), api.OK)
	wantNoFile(t, d, "a")
	wantErrno(t, "Delete(a) again", d.Delete("a"), api.ErrNone)
	wantErrno(t, "Delete(c)", d.Delete("c"), api.OK)
	wantList(t, d, "b")
	wantUsed(t, d, 2)
	wantErrno(t, "Append(a)", d.Append("a", []byte("x")), api.OK)
	wantFile(t, d, "a", "x", 0)
	d.Delete("a")
	d.Crash()
	d.Wake([]int{9, 9, 9})
	wantList(t, d, "b")
	wantNoFile(t, d, "a")
}

func TestList(t *testing.T) {
	names := []string{"b", "a", "ab", "\xff", "B", "\x00", "aa", "1", "10", "2", "é", "z", "a\x00", "~"}
	want := []string{"\x00", "1", "10", "2", "B", "a", "a\x00", "aa", "ab", "b", "z", "~", "é", "\xff"}
	d := made(t, 0)
	for _, name := range names {
		wantErrno(t, "Append", d.Append(name, nil), api.OK)
	}
	for range 20 {
		wantList(t, d, want...)
	}
	for i := range want {
		wantErrno(t, "Delete", d.Delete(want[i]), api.OK)
		wantList(t, d, want[i+1:]...)
	}
}

// cutOff is a disk with files a (three bytes, two of them safe) and b (one byte) whose fuse is n and k, behind n acts.
func cutOff(t *testing.T, n, k int) *disk.Disk {
	t.Helper()
	d := with(t, "a", "12", "b", "x")
	d.Sync("a")
	d.Append("a", []byte("3"))
	d.Fuse(n, k)
	for i := range n {
		wantErrno(t, fmt.Sprintf("act %d ahead of the fuse's end", i), d.Sync("b"), api.OK)
	}
	wantState(t, d, true, 0)
	return d
}

func TestAFuseOfEachAct(t *testing.T) {
	for _, n := range []int{0, 1, 2, 7} {
		for _, k := range []int{0, 1, 4, 5, 13} {
			for _, c := range allActs() {
				d := cutOff(t, n, k)
				wantErrno(t, c.String(), c.answer(d), api.ErrDown)
				wantState(t, d, false, 1)
				text := "123"
				if c.kind == appendTo {
					text += "more"[:k%5]
				}
				wantUsed(t, d, len(text)+1)
				wantList(t, d, "a", "b")
				if got := d.Safe("a"); got != 2 {
					t.Errorf("Safe(a): %d behind %v", got, c)
				}
				wantErrno(t, "Sync of a disk that is down", d.Sync("b"), api.ErrDown)
				d.Wake([]int{len(text) - 2, 1})
				wantFile(t, d, "a", text, len(text))
				wantFile(t, d, "b", "x", 1)
				for _, c := range allActs() { // the fuse is gone
					wantErrno(t, c.String(), c.answer(d), api.OK)
					d.Append("a", []byte("y"))
				}
				wantState(t, d, true, 1)
			}
		}
	}
}

func TestAFuseOfAnActThatIsRefused(t *testing.T) {
	for _, n := range []int{0, 3} {
		for _, k := range []int{0, 1, 5, 101, 150} {
			for _, r := range refusedActs() {
				d := cutOff(t, n, k)
				wantErrno(t, r.String(), r.answer(d), api.ErrDown)
				wantState(t, d, false, 1)
				wantList(t, d, "a", "b")
				wantUsed(t, d, 4)
				d.Wake([]int{1, 1})
				wantFile(t, d, "a", "123", 3)
				wantFile(t, d, "b", "x", 1)
				wantErrno(t, r.String(), r.answer(d), r.want)
			}
		}
	}
}

// An Append for which there is no file any more is one of those that aren't answered OK.
func TestAFuseOfAnAppendThatMakesTooManyFiles(t *testing.T) {
	d := made(t, 10)
	for i := range 256 {
		d.Append(fmt.Sprint(i), nil)
	}
	d.Fuse(0, 1)
	wantErrno(t, "Append", d.Append("x", []byte("x")), api.ErrDown)
	d.Wake([]int{9})
	wantNoFile(t, d, "x")
	if len(d.List()) != 256 || d.Used() != 0 {
		t.Errorf("%d files, %d bytes", len(d.List()), d.Used())
	}
}

func TestActsThatAreRefusedCountForAFuse(t *testing.T) {
	all := refusedActs()
	for n := range len(all) + 1 {
		d := with(t, "a", "123", "b", "x")
		d.Fuse(n, 0)
		for _, r := range all[:n] {
			wantErrno(t, r.String(), r.answer(d), r.want)
			wantState(t, d, true, 0)
		}
		wantErrno(t, "the act behind them", d.Sync("a"), api.ErrDown)
		wantState(t, d, false, 1)
		if d.Safe("a") != 0 {
			t.Errorf("Safe(a): %d behind a Sync that was cut off", d.Safe("a"))
		}
	}
}

func TestWhatIsNoActDoesNotCountForAFuse(t *testing.T) {
	d := with(t, "a", "123")
	d.Fuse(1, 0)
	for range 5 {
		d.Read("a")
		d.Read("n")
		d.List()
		d.Used()
		d.Safe("a")
		d.Wake([]int{1})
		d.Up()
		d.Falls()
	}
	wantErrno(t, "the first act", d.Sync("a"), api.OK)
	wantFile(t, d, "a", "123", 3)
	wantErrno(t, "the second act", d.Sync("a"), api.ErrDown)
}

func TestHowMuchOfAnAppendIsPutOn(t *testing.T) {
	const text = "abcdefg"
	for n := range len(text) + 1 {
		for _, k := range []int{math.MinInt, -1, 0, 1, 2, 3, 4, 5, 6, 7, 8, 9, 100, math.MaxInt - 1, math.MaxInt} {
			want := text[:max(k, 0)%(n+1)]
			d := with(t, "b", "xy")
			d.Sync("b")
			d.Fuse(0, k)
			wantErrno(t, "Append that makes its file", d.Append("a", []byte(text[:n])), api.ErrDown)
			wantList(t, d, "a", "b")
			wantUsed(t, d, 2+len(want))
			if d.Safe("a") != 0 {
				t.Errorf("Safe(a): %d", d.Safe("a"))
			}
			d.Wake([]int{len(want)})
			wantFile(t, d, "a", want, len(want))
			wantFile(t, d, "b", "xy", 2)
			d.Fuse(0, k)
			wantErrno(t, "Append to a file", d.Append("b", []byte(text[:n])), api.ErrDown)
			d.Wake([]int{0, len(want)})
			wantFile(t, d, "b", "xy"+want, 2+len(want))
			wantFile(t, d, "a", want, len(want))
			wantState(t, d, true, 2)
		}
	}
}

// What was put on of an Append that was cut off is no safer than the rest.
func TestWhatIsPutOnAtAFallMayBeGone(t *testing.T) {
	for more := range 6 {
		d := with(t, "a", "12")
		d.Sync("a")
		d.Append("a", []byte("34"))
		d.Fuse(0, 3)
		wantErrno(t, "Append", d.Append("a", []byte("56789")), api.ErrDown)
		if d.Safe("a") != 2 || d.Used() != 7 {
			t.Errorf("%d safe, %d in all", d.Safe("a"), d.Used())
		}
		d.Wake([]int{more})
		wantFile(t, d, "a", "1234567"[:2+more], 2+more)
	}
}

func TestAnAppendOfJustSoMuchIsCutOff(t *testing.T) {
	for _, more := range []int{0, 1} {
		d := made(t, 5)
		d.Fuse(0, 4)
		wantErrno(t, "Append", d.Append("a", []byte("123456")[:5+more]), api.ErrDown)
		d.Wake([]int{4})
		if more == 0 {
			wantFile(t, d, "a", "1234", 4)
		} else {
			wantNoFile(t, d, "a")
		}
	}
}

func TestFusesOfNumbersBelowZero(t *testing.T) {
	for _, n := range []int{math.MinInt, math.MinInt32, -2, -1, 0} {
		for _, k := range []int{math.MinInt, -3, -1, 0} {
			d := with(t, "a", "12")
			d.Fuse(n, k)
			wantState(t, d, true, 0)
			wantErrno(t, "the first act", d.Append("a", []byte("345")), api.ErrDown)
			d.Wake([]int{2})
			wantFile(t, d, "a", "12", 2)
		}
	}
}

func TestAFuseTakesThePlaceOfTheOneBefore(t *testing.T) {
	d := with(t, "a", "12")
	d.Fuse(0, 1)
	d.Fuse(2, 2)
	wantErrno(t, "the first act", d.Sync("a"), api.OK)
	d.Fuse(1, 3)
	wantErrno(t, "the second act", d.Sync("a"), api.OK)
	wantErrno(t, "the third act", d.Append("a", []byte("34567")), api.ErrDown)
	d.Wake([]int{3})
	wantFile(t, d, "a", "12345", 5)
	d.Fuse(math.MaxInt, math.MaxInt)
	for range 100 {
		wantErrno(t, "an act ahead of a late fuse", d.Sync("a"), api.OK)
	}
	d.Fuse(0, 0)
	wantErrno(t, "the act behind it", d.Sync("a"), api.ErrDown)
	wantState(t, d, false, 2)
}

func TestAFuseIsGoneWithACrash(t *testing.T) {
	d := with(t, "a", "12")
	d.Fuse(1, 0)
	d.Crash()
	d.Wake(nil)
	for range 5 {
		wantErrno(t, "Sync", d.Sync("a"), api.OK)
	}
	d.Crash()
	d.Fuse(0, 0)
	d.Crash()
	d.Wake(nil)
	wantErrno(t, "Sync behind a Crash of a disk that was down", d.Sync("a"), api.OK)
	wantState(t, d, true, 2)
}

// A fuse that is put to a disk that is down counts from its waking on: nothing is done of an act of a disk that is down.
func TestAFuseOfADiskThatIsDown(t *testing.T) {
	d := with(t, "a", "12")
	d.Crash()
	d.Fuse(1, 2)
	for range 3 {
		wantErrno(t, "Sync of a disk that is down", d.Sync("a"), api.ErrDown)
		wantErrno(t, "Append of a disk that is down", d.Append("a", []byte("34")), api.ErrDown)
	}
	wantState(t, d, false, 1)
	d.Wake([]int{2})
	wantErrno(t, "the first act", d.Sync("a"), api.OK)
	wantErrno(t, "the second act", d.Append("a", []byte("345")), api.ErrDown)
	wantState(t, d, false, 2)
	d.Wake([]int{2})
	wantFile(t, d, "a", "1234", 4)
}

func TestFalls(t *testing.T) {
	d := with(t, "a", "12")
	wantState(t, d, true, 0)
	for i := range 5 {
		d.Crash()
		wantState(t, d, false, 2*i+1)
		d.Crash()
		d.Sync("a")
		d.Append("a", []byte("x"))
		d.Crash()
		wantState(t, d, false, 2*i+1)
		d.Wake(nil)
		wantState(t, d, true, 2*i+1)
		d.Wake(nil)
		wantState(t, d, true, 2*i+1)
		d.Fuse(0, 0)
		wantState(t, d, true, 2*i+1)
		d.Delete("a")
		wantState(t, d, false, 2*i+2)
		d.Crash()
		d.Wake(nil)
		wantState(t, d, true, 2*i+2)
	}
}

func TestWakeOfADiskThatIsUp(t *testing.T) {
	d := with(t, "a", "abc", "b", "de")
	d.Sync("b")
	d.Append("b", []byte("f"))
	for _, keep := range [][]int{nil, {0}, {1, 1}, {-1, 9}} {
		d.Wake(keep)
		wantFile(t, d, "a", "abc", 0)
		wantFile(t, d, "b", "def", 2)
		wantState(t, d, true, 0)
	}
}

func TestHowMuchOfAFileStays(t *testing.T) {
	const text = "abcdef"
	for safe := range len(text) + 1 {
		for _, more := range []int{math.MinInt, math.MinInt32, -7, -1, 0, 1, 2, 3, 4, 5, 6, 7, 8, 100, math.MaxInt - 1, math.MaxInt} {
			d := with(t, "a", text[:safe])
			d.Sync("a")
			d.Append("a", []byte(text[safe:]))
			d.Crash()
			d.Wake([]int{more})
			left := safe + max(more, 0)%(len(text)-safe+1)
			wantFile(t, d, "a", text[:left], left)
			wantState(t, d, true, 1)
			// all that is left is safe
			d.Append("a", []byte("z"))
			d.Crash()
			d.Wake(nil)
			wantFile(t, d, "a", text[:left], left)
		}
	}
}

func TestNumbersAreTakenByRisingNames(t *testing.T) {
	cases := []struct {
		keep []int
		want [4]int
	}{
		{nil, [4]int{}}, {[]int{}, [4]int{}}, {[]int{1}, [4]int{1}}, {[]int{0, 2}, [4]int{0, 2}}, {[]int{0, 0, 0, 4}, [4]int{0, 0, 0, 4}},
		{[]int{4, 3, 2, 1}, [4]int{4, 3, 2, 1}}, {[]int{4, 3, 2, 1, 4, 4}, [4]int{4, 3, 2, 1}}, {[]int{-1, 5, -9, 8}, [4]int{0, 0, 0, 3}},
	}
	names := []string{"B", "a", "aa", "\xff"}
	orders := [][]int{{0, 1, 2, 3}, {3, 2, 1, 0}, {2, 0, 3, 1}, {1, 3, 0, 2}}
	for _, c := range cases {
		for _, order := range orders {
			d := made(t, 100)
			for _, i := range order {
				d.Append(names[i], []byte("abcd"))
			}
			d.Crash()
			d.Wake(c.keep)
			for i, name := range names {
				wantFile(t, d, name, "abcd"[:c.want[i]], c.want[i])
			}
		}
	}
}

// A number belongs to a file's place in the row of all names, those without loose bytes counted.
func TestFilesThatAreSafeTakeTheirNumbers(t *testing.T) {
	d := with(t, "a", "abcd", "b", "abcd", "c", "", "d", "abcd")
	d.Sync("a")
	d.Crash()
	d.Wake([]int{3, 1, 3, 2})
	wantFile(t, d, "a", "abcd", 4)
	wantFile(t, d, "b", "a", 1)
	wantFile(t, d, "c", "", 0)
	wantFile(t, d, "d", "ab", 2)
	wantList(t, d, "a", "b", "c", "d")
	wantUsed(t, d, 7)
}

func TestManyFilesAtAFall(t *testing.T) {
	d := made(t, 10000)
	keep := make([]int, 256)
	for i := range 256 {
		d.Append(fmt.Sprintf("f%03d", 255-i), []byte("abcdefgh"))
		keep[i] = i
	}
	d.Crash()
	d.Wake(keep)
	for i := range 256 {
		wantFile(t, d, fmt.Sprintf("f%03d", i), "abcdefgh"[:i%9], i%9)
	}
}

func TestWhatIsHandedInIsNotKept(t *testing.T) {
	d := made(t, 100)
	b := append(make([]byte, 0, 50), "abc"...)
	d.Append("a", b)
	copy(b[:50], bytes.Repeat([]byte("X"), 50))
	wantFile(t, d, "a", "abc", 0)
	d.Append("a", b[:2])
	copy(b[:50], bytes.Repeat([]byte("Y"), 50))
	wantFile(t, d, "a", "abcXX", 0)
	d.Fuse(0, 2)
	d.Append("a", b)
	copy(b[:50], bytes.Repeat([]byte("Z"), 50))
	keep := []int{7, 9}
	d.Wake(keep)
	if !slices.Equal(keep, []int{7, 9}) {
		t.Errorf("Wake changed its numbers: %v", keep)
	}
	wantFile(t, d, "a", "abcXXYY", 7)
}

func TestWhatIsHandedInIsNotChanged(t *testing.T) {
	d := made(t, 100)
	spare := []byte("abcdefgh")
	d.Append("a", spare[:3])
	d.Append("a", []byte("XY"))
	d.Fuse(0, 1)
	d.Append("a", spare[4:6])
	d.Wake([]int{6})
	d.Append("a", []byte("Z"))
	if string(spare) != "abcdefgh" {
		t.Errorf("what was handed in is %q now", spare)
	}
	wantFile(t, d, "a", "abcXYeZ", 6)
}

func TestWhatIsReadHasBytesOfItsOwn(t *testing.T) {
	d := with(t, "a", "abc")
	first, _ := d.Read("a")
	second, _ := d.Read("a")
	spoil := func(b []byte) {
		for i := range b[:cap(b)] {
			b[:cap(b)][i] = '#'
		}
	}
	spoil(first)
	if string(second) != "abc" {
		t.Errorf("two answers share bytes: %q", second)
	}
	wantFile(t, d, "a", "abc", 0)
	d.Append("a", []byte("def"))
	d.Append("a", []byte("ghi"))
	if string(second) != "abc" || strings.Trim(string(first[:cap(first)]), "#") != "" {
		t.Errorf("an Append changed what was read: %q, %q", first, second)
	}
	spoil(second)
	wantFile(t, d, "a", "abcdefghi", 0)
	d.Truncate("a", 4)
	third, _ := d.Read("a")
	spoil(third)
	d.Append("a", []byte("x"))
	wantFile(t, d, "a", "abcdx", 0)
	fourth, _ := d.Read("a")
	d.Crash()
	d.Wake([]int{2})
	d.Append("a", []byte("###"))
	if string(fourth) != "abcdx" {
		t.Errorf("a fall changed what was read: %q", fourth)
	}
	names := d.List()
	names[0] = "z"
	wantList(t, d, "a")
}

func TestAppendOfWhatWasRead(t *testing.T) {
	d := with(t, "a", "abc")
	for range 3 {
		b, _ := d.Read("a")
		wantErrno(t, "Append", d.Append("a", b), api.OK)
	}
	wantFile(t, d, "a", strings.Repeat("abc", 8), 0)
}

// heapBytes is how much memory is held.
func heapBytes() int {
	runtime.GC()
	var m runtime.MemStats
	runtime.ReadMemStats(&m)
	return int(m.HeapAlloc)
}

// A disk doesn't hold more bytes than it has room for, however many were put there and went.
func TestWhatIsGoneIsNotHeld(t *testing.T) {
	const size, many = 1 << 20, 64
	ways := []struct {
		what string
		gone func(d *disk.Disk, name string)
	}{
		{"Truncate", func(d *disk.Disk, name string) { d.Truncate(name, 0) }},
		{"Delete", func(d *disk.Disk, name string) { d.Delete(name) }},
		{"Rename", func(d *disk.Disk, name string) { d.Append("empty", nil); d.Rename("empty", name) }},
		{"a fall", func(d *disk.Disk, name string) { d.Crash(); d.Wake(nil) }},
	}
	for _, w := range ways {
		d, b := made(t, size), make([]byte, size)
		before := heapBytes()
		for i := range many {
			name := fmt.Sprint(i)
			wantErrno(t, "Append", d.Append(name, b), api.OK)
			w.gone(d, name)
			wantUsed(t, d, 0)
		}
		if grown := heapBytes() - before; grown > many*size/4 {
			t.Errorf("%s: %d bytes are held, of a room of %d", w.what, grown, size)
		}
		runtime.KeepAlive(d)
		runtime.KeepAlive(b)
	}
}

func TestANilDisk(t *testing.T) {
	var d *disk.Disk
	for range 2 {
		for _, c := range allActs() {
			wantErrno(t, c.String(), c.answer(d), api.ErrDown)
		}
		for _, r := range refusedActs() {
			wantErrno(t, r.String(), r.answer(d), api.ErrDown)
		}
		for _, name := range []string{"a", ""} {
			if b, errno := d.Read(name); errno != api.ErrDown || len(b) > 0 {
				t.Errorf("Read(%q): %q, %d", name, b, int(errno))
			}
			if d.Safe(name) != 0 {
				t.Errorf("Safe(%q): %d", name, d.Safe(name))
			}
		}
		wantList(t, d)
		wantUsed(t, d, 0)
		wantState(t, d, false, 0)
		d.Fuse(0, 0)
		d.Fuse(3, -1)
		d.Crash()
		d.Wake(nil)
		d.Wake([]int{1, 2})
		wantState(t, d, false, 0)
	}
}

func TestTwoDisksHaveNothingToDoWithEachOther(t *testing.T) {
	a, b := with(t, "a", "abc"), with(t, "a", "xy")
	a.Sync("a")
	wantFile(t, b, "a", "xy", 0)
	a.Fuse(0, 0)
	wantErrno(t, "Append to the other one", b.Append("a", []byte("z")), api.OK)
	a.Crash()
	wantState(t, b, true, 0)
	wantFile(t, b, "a", "xyz", 0)
	b.Delete("a")
	a.Wake(nil)
	wantFile(t, a, "a", "abc", 3)
	wantState(t, b, true, 0)
	wantList(t, b)
}
