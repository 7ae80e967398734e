package disk_test

import (
	"fmt"
	"slices"
	"strings"
	"testing"

	"equerry/api"
	"equerry/disk"
)

// store is what a disk, and the plain one that it is held against, can be told and asked.
type store interface {
	Append(name string, b []byte) api.Errno
	Sync(name string) api.Errno
	Rename(from, to string) api.Errno
	Truncate(name string, n int) api.Errno
	Delete(name string) api.Errno
	Read(name string) ([]byte, api.Errno)
	List() []string
	Used() int
	Safe(name string) int
	Fuse(n, k int)
	Crash()
	Wake(keep []int)
	Up() bool
	Falls() int
}

// plainFile is a file whose safe bytes, and those behind them, are two texts.
type plainFile struct{ name, safe, loose string }

func (f plainFile) text() string { return f.safe + f.loose }

// plain is a disk as a row of files in the order of their names, each of whose acts is asked first and done then.
type plain struct {
	room  int
	files []plainFile
	down  bool
	falls int
	fuse  []int // how many acts are left, and of how many bytes; none: no fuse
}

func (p *plain) at(name string) int {
	return slices.IndexFunc(p.files, func(f plainFile) bool { return f.name == name })
}

func (p *plain) put(f plainFile) {
	p.drop(f.name)
	i := 0
	for i < len(p.files) && p.files[i].name < f.name {
		i++
	}
	p.files = slices.Insert(p.files, i, f)
}

func (p *plain) drop(name string) {
	p.files = slices.DeleteFunc(p.files, func(f plainFile) bool { return f.name == name })
}

// act is what an act is answered: would be, done, or, if it is cut off, cut.
func (p *plain) act(would api.Errno, done, cut func()) api.Errno {
	if p.down {
		return api.ErrDown
	}
	if len(p.fuse) == 2 && p.fuse[0] == 0 {
		if would == api.OK {
			cut()
		}
		p.Crash()
		return api.ErrDown
	}
	if len(p.fuse) == 2 {
		p.fuse[0]--
	}
	if would == api.OK {
		done()
	}
	return would
}

func nothing() {}

func (p *plain) Append(name string, b []byte) api.Errno {
	would := api.OK
	if p.at(name) < 0 && len(p.files) >= 256 || p.Used()+len(b) > p.room {
		would = api.ErrFull
	}
	if name == "" || len(name) > 32 {
		would = api.ErrArg
	}
	grown := func(more []byte) func() {
		return func() {
			f := plainFile{name: name}
			if i := p.at(name); i >= 0 {
				f = p.files[i]
			}
			f.loose += string(more)
			p.put(f)
		}
	}
	part := b
	if len(p.fuse) == 2 {
		part = b[:p.fuse[1]%(len(b)+1)]
	}
	return p.act(would, grown(b), grown(part))
}

// there is OK, if there is such a file, else ErrNone.
func (p *plain) there(name string) api.Errno {
	if p.at(name) < 0 {
		return api.ErrNone
	}
	return api.OK
}

func (p *plain) Sync(name string) api.Errno {
	return p.act(p.there(name), func() {
		f := p.files[p.at(name)]
		p.put(plainFile{name, f.text(), ""})
	}, nothing)
}

func (p *plain) Rename(from, to string) api.Errno {
	would := p.there(from)
	if to == "" || len(to) > 32 {
		would = api.ErrArg
	}
	return p.act(would, func() {
		f := p.files[p.at(from)]
		p.drop(from)
		f.name = to
		p.put(f)
	}, nothing)
}

func (p *plain) Truncate(name string, n int) api.Errno {
	would := p.there(name)
	if would == api.OK && (n < 0 || n > len(p.files[p.at(name)].text())) {
		would = api.ErrArg
	}
	return p.act(would, func() {
		f := p.files[p.at(name)]
		if n <= len(f.safe) {
			f.safe, f.loose = f.safe[:n], ""
		} else {
			f.loose = f.loose[:n-len(f.safe)]
		}
		p.put(f)
	}, nothing)
}

func (p *plain) Delete(name string) api.Errno {
	return p.act(p.there(name), func() { p.drop(name) }, nothing)
}

func (p *plain) Read(name string) ([]byte, api.Errno) {
	if p.down {
		return nil, api.ErrDown
	}
	if i := p.at(name); i >= 0 {
		return []byte(p.files[i].text()), api.OK
	}
	return nil, api.ErrNone
}

func (p *plain) List() []string {
	var names []string
	for _, f := range p.files {
		names = append(names, f.name)
	}
	return names
}

func (p *plain) Used() int {
	var all strings.Builder
	for _, f := range p.files {
		all.WriteString(f.text())
	}
	return all.Len()
}

func (p *plain) Safe(name string) int {
	if i := p.at(name); i >= 0 {
		return len(p.files[i].safe)
	}
	return 0
}

func (p *plain) Fuse(n, k int) { p.fuse = []int{max(0, n), max(0, k)} }

func (p *plain) Crash() {
	if !p.down {
		p.falls++
	}
	p.down, p.fuse = true, nil
}

func (p *plain) Wake(keep []int) {
	if !p.down {
		return
	}
	for i := range p.files {
		f, n := &p.files[i], 0
		if i < len(keep) && keep[i] > 0 {
			n = keep[i] % (len(f.loose) + 1)
		}
		f.safe, f.loose = f.safe+f.loose[:n], ""
	}
	p.down = false
}

func (p *plain) Up() bool { return !p.down }

func (p *plain) Falls() int { return p.falls }

// The kinds of calls that may change a disk.
const (
	appendTo = iota
	sync
	rename
	truncate
	deleteIt
	fuse
	crash
	wake
	kinds
)

// call is a call of a disk; which fields count its kind says.
type call struct {
	kind     int
	name, to string
	n, k     int
	keep     []int
}

func (c call) String() string {
	switch c.kind {
	case appendTo:
		return fmt.Sprintf("Append(%q, %q)", c.name, c.to)
	case sync:
		return fmt.Sprintf("Sync(%q)", c.name)
	case rename:
		return fmt.Sprintf("Rename(%q, %q)", c.name, c.to)
	case truncate:
		return fmt.Sprintf("Truncate(%q, %d)", c.name, c.n)
	case deleteIt:
		return fmt.Sprintf("Delete(%q)", c.name)
	case fuse:
		return fmt.Sprintf("Fuse(%d, %d)", c.n, c.k)
	case crash:
		return "Crash()"
	}
	return fmt.Sprintf("Wake(%v)", c.keep)
}

// answer is what a call answers (OK, if it answers nothing).
func (c call) answer(s store) api.Errno {
	switch c.kind {
	case appendTo:
		return s.Append(c.name, []byte(c.to))
	case sync:
		return s.Sync(c.name)
	case rename:
		return s.Rename(c.name, c.to)
	case truncate:
		return s.Truncate(c.name, c.n)
	case deleteIt:
		return s.Delete(c.name)
	case fuse:
		s.Fuse(c.n, c.k)
	case crash:
		s.Crash()
	case wake:
		s.Wake(c.keep)
	}
	return api.OK
}

// seen is all that a disk answers of itself and of some names, without being changed.
func seen(s store, names []string) string {
	var all strings.Builder
	fmt.Fprintf(&all, "%v %d %d %q", s.Up(), s.Falls(), s.Used(), s.List())
	for _, name := range names {
		b, errno := s.Read(name)
		fmt.Fprintf(&all, " %q:%q/%d/%d", name, b, int(errno), s.Safe(name))
	}
	return all.String()
}

// sameSight tells whether two disks answer alike of themselves and of some names, without making a text of it.
func sameSight(a, b store, names []string) bool {
	if a.Up() != b.Up() || a.Falls() != b.Falls() || a.Used() != b.Used() || !slices.Equal(a.List(), b.List()) {
		return false
	}
	for _, name := range names {
		x, first := a.Read(name)
		y, second := b.Read(name)
		if string(x) != string(y) || first != second || a.Safe(name) != b.Safe(name) {
			return false
		}
	}
	return true
}

// asThePlainOne tells whether a disk of that room answers a row of calls as the plain one does, and is like it, each time or in the end.
func asThePlainOne(t *testing.T, room int, row []call, names []string, eachTime bool) bool {
	t.Helper()
	d, errno := disk.New(room)
	if errno != api.OK {
		t.Fatalf("New(%d): %v", room, errno)
	}
	p := &plain{room: room}
	for i, c := range row {
		if got, want := c.answer(d), c.answer(p); got != want {
			t.Errorf("behind %v: %v: %d, not %d", row[:i], c, got, want)
			return false
		}
		if (eachTime || i == len(row)-1) && !sameSight(d, p, names) {
			t.Errorf("behind %v: %s, not %s", row[:i+1], seen(d, names), seen(p, names))
			return false
		}
	}
	return true
}

// noise is a row of numbers that hangs on its seed alone.
func noise(seed uint64, n int) []uint64 {
	row := make([]uint64, n)
	for i := range row {
		seed += 0x9e3779b97f4a7c15
		x := seed
		x = (x ^ x>>30) * 0xbf58476d1ce4e5b9
		x = (x ^ x>>27) * 0x94d049bb133111eb
		row[i] = x ^ x>>31
	}
	return row
}
