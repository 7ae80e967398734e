package seglog_test

import (
	"bytes"
	"encoding/binary"
	"fmt"
	"hash/crc32"
	"math/big"
	"slices"
	"strings"
	"testing"

	"equerry/api"
	"equerry/disk"
	"equerry/seglog"
)

// A plain log does the chapter's words one by one, on a disk of its own: its records stand in a row, each with its number, and what is asked is counted out of that each time.

type numbered struct {
	n    uint64
	text string
	safe bool
}

type plain struct {
	d       *disk.Disk
	name    string
	most    int
	starts  []uint64
	records []numbered
	gone    bool
}

// act is an act on a disk.
type act struct {
	pass   api.Errno // an error that is passed over
	safes  bool      // it makes safe
	do     func() api.Errno
	behind func() // what holds as soon as it was done
}

// all does acts, up to one that fails.
func (p *plain) all(acts ...act) api.Errno {
	for _, a := range acts {
		errno := a.do()
		if errno == a.pass {
			errno = api.OK
		}
		if errno == api.ErrDown || errno != api.OK && a.safes {
			p.gone = true
		}
		if errno != api.OK {
			return errno
		}
		if a.behind != nil {
			a.behind()
		}
	}
	return api.OK
}

func (p *plain) deletes(file string) act {
	return act{pass: api.ErrNone, do: func() api.Errno { return p.d.Delete(file) }}
}

func (p *plain) writes(starts []uint64) []act {
	t, m := p.name+".t", p.name+".m"
	return []act{
		p.deletes(t),
		{do: func() api.Errno { return p.d.Append(t, manifest(starts...)) }},
		{safes: true, do: func() api.Errno { return p.d.Sync(t) }},
		{do: func() api.Errno { return p.d.Rename(t, m) }, behind: func() { p.starts = starts }},
	}
}

// safes makes the last segment safe, if it has records that aren't.
func (p *plain) safes() []act {
	if !slices.ContainsFunc(p.records, func(r numbered) bool { return !r.safe }) {
		return nil
	}
	return []act{{safes: true, do: func() api.Errno { return p.d.Sync(p.last()) }, behind: p.allSafe}}
}

func (p *plain) allSafe() {
	for i := range p.records {
		p.records[i].safe = true
	}
}

func (p *plain) segment(start uint64) string { return fmt.Sprintf("%s.%d", p.name, start) }

func (p *plain) last() string { return p.segment(p.starts[len(p.starts)-1]) }

// plainRecord is the record that bytes begin with, if they do.
func plainRecord(b []byte) (string, bool) {
	if len(b) < headSize {
		return "", false
	}
	n := uint64(binary.BigEndian.Uint32(b))
	if n > api.MaxRecord || uint64(len(b)) < headSize+n {
		return "", false
	}
	record := string(b[headSize : headSize+n])
	return record, crc32.ChecksumIEEE([]byte(string(b[:4])+record)) == binary.BigEndian.Uint32(b[4:])
}

func plainScan(b []byte) ([]string, int) {
	var records []string
	end := 0
	for {
		record, ok := plainRecord(b[end:])
		if !ok {
			return records, end
		}
		records, end = append(records, record), end+headSize+len(record)
	}
}

// plainManifest are the numbers that a manifest's bytes tell: just those whose writing is these bytes again.
func plainManifest(b []byte) ([]uint64, bool) {
	record, _ := plainRecord(b)
	var all []uint64
	for at := []byte(record); len(at) > 0; {
		n, size := binary.Uvarint(at)
		if size <= 0 {
			return nil, false
		}
		all, at = append(all, n), at[size:]
	}
	if len(all) < 2 || !bytes.Equal(manifest(all[1:]...), b) {
		return nil, false
	}
	for i := 2; i < len(all); i++ {
		if all[i-1] >= all[i] {
			return nil, false
		}
	}
	return all[1:], true
}

func plainOpen(d *disk.Disk, name string, most int) (*plain, api.Errno) {
	if name == "" || len(name) > 8 || strings.Trim(name, "abcdefghijklmnopqrstuvwxyz") != "" || most <= 0 || most > 1<<24 {
		return nil, api.ErrArg
	}
	p := &plain{d: d, name: name, most: most}
	if errno := p.all(p.deletes(name + ".t")); errno != api.OK {
		return nil, errno
	}
	b, errno := d.Read(name + ".m")
	ok := false
	switch errno {
	case api.ErrNone:
		if errno := p.all(p.writes([]uint64{0})...); errno != api.OK {
			return nil, errno
		}
	case api.OK:
		if p.starts, ok = plainManifest(b); !ok {
			return nil, api.ErrForm
		}
	default:
		return nil, errno
	}
	var strays []act
	for _, file := range d.List() {
		digits := strings.TrimPrefix(file, name+".")
		if digits == file || digits == "" || strings.Trim(digits, "0123456789") != "" || slices.ContainsFunc(p.starts, func(n uint64) bool { return p.segment(n) == file }) {
			continue
		}
		strays = append(strays, act{do: func() api.Errno { return d.Delete(file) }})
	}
	if errno := p.all(strays...); errno != api.OK {
		return nil, errno
	}
	for i := range p.starts {
		if errno := p.read(i); errno != api.OK {
			return nil, errno
		}
	}
	return p, api.OK
}

// read reads a segment; numbers are counted without a bound.
func (p *plain) read(i int) api.Errno {
	file := p.segment(p.starts[i])
	b, errno := p.d.Read(file)
	if errno != api.OK && errno != api.ErrNone {
		return errno
	}
	records, end := plainScan(b)
	behind := new(big.Int).Add(new(big.Int).SetUint64(p.starts[i]), big.NewInt(int64(len(records))))
	if !behind.IsUint64() {
		return api.ErrForm
	}
	if i+1 < len(p.starts) && (end != len(b) || behind.Uint64() != p.starts[i+1]) {
		return api.ErrForm
	}
	var acts []act
	if end != len(b) {
		acts = append(acts, act{do: func() api.Errno { return p.d.Truncate(file, end) }})
	}
	if p.d.Safe(file) < end {
		acts = append(acts, act{safes: true, do: func() api.Errno { return p.d.Sync(file) }})
	}
	for k, text := range records {
		p.records = append(p.records, numbered{p.starts[i] + uint64(k), text, true})
	}
	return p.all(acts...)
}

func (p *plain) Append(record []byte) api.Errno {
	switch {
	case p == nil:
		return api.ErrArg
	case p.gone:
		return api.ErrDown
	case len(record) > 1<<16:
		return api.ErrLong
	}
	var acts []act
	size := 0
	for _, r := range p.records {
		if r.n >= p.starts[len(p.starts)-1] {
			size += headSize + len(r.text)
		}
	}
	if size >= p.most { // more than nothing
		acts = append(p.safes(), p.writes(append(slices.Clone(p.starts), p.End()))...)
	}
	text := string(record)
	return p.all(append(acts, act{
		do:     func() api.Errno { return p.d.Append(p.last(), frame(text)) },
		behind: func() { p.records = append(p.records, numbered{p.End(), text, false}) },
	})...)
}

func (p *plain) Sync() api.Errno {
	switch {
	case p == nil:
		return api.ErrArg
	case p.gone:
		return api.ErrDown
	}
	return p.all(p.safes()...)
}

func (p *plain) Trim(n uint64) api.Errno {
	switch {
	case p == nil:
		return api.ErrArg
	case p.gone:
		return api.ErrDown
	}
	var stay []uint64
	var deletes []act
	for i, start := range p.starts {
		below := func(r numbered) bool { return r.n < start || r.n < n || i+1 < len(p.starts) && r.n >= p.starts[i+1] }
		if i+1 < len(p.starts) && !slices.ContainsFunc(p.records, func(r numbered) bool { return !below(r) }) {
			deletes = append(deletes, p.deletes(p.segment(start)))
		} else {
			stay = append(stay, start)
		}
	}
	if len(deletes) == 0 {
		return api.OK
	}
	acts := p.writes(stay)
	told := acts[len(acts)-1].behind
	acts[len(acts)-1].behind = func() {
		told()
		p.records = slices.DeleteFunc(p.records, func(r numbered) bool { return r.n < stay[0] })
	}
	return p.all(append(acts, deletes...)...)
}

func (p *plain) Base() uint64 {
	if p == nil {
		return 0
	}
	return p.starts[0]
}

func (p *plain) End() uint64 {
	switch {
	case p == nil:
		return 0
	case len(p.records) > 0:
		return p.records[len(p.records)-1].n + 1
	}
	return p.starts[len(p.starts)-1]
}

func (p *plain) Safe() uint64 {
	if p == nil {
		return 0
	}
	if i := slices.IndexFunc(p.records, func(r numbered) bool { return !r.safe }); i >= 0 {
		return p.records[i].n
	}
	return p.End()
}

func (p *plain) All() [][]byte {
	if p == nil {
		return nil
	}
	var all [][]byte
	for _, r := range p.records {
		all = append(all, []byte(r.text))
	}
	return all
}

func (p *plain) Get(n uint64) ([]byte, api.Errno) {
	if p == nil {
		return nil, api.ErrArg
	}
	for _, r := range p.records {
		if r.n == n {
			return []byte(r.text), api.OK
		}
	}
	return nil, api.ErrNone
}

func (p *plain) Segments() []uint64 {
	if p == nil {
		return nil
	}
	return p.starts
}

// logs are what a log, and the plain one that it is held against, can be told and asked.
type logs interface {
	Append(record []byte) api.Errno
	Sync() api.Errno
	Trim(n uint64) api.Errno
	Base() uint64
	End() uint64
	Safe() uint64
	Get(n uint64) ([]byte, api.Errno)
	All() [][]byte
	Segments() []uint64
}

var _, _ logs = (*seglog.Log)(nil), (*plain)(nil)

// tells is what a log tells as a text, and what its disk has.
func tells(l logs, d *disk.Disk) string {
	text := fmt.Sprintf("base %d, end %d, safe %d, segments %v, all %q", l.Base(), l.End(), l.Safe(), l.Segments(), texts(l.All()))
	for _, n := range []uint64{0, l.Base() - 1, l.Base(), l.Safe(), l.End() - 1, l.End()} {
		b, errno := l.Get(n)
		text += fmt.Sprintf("; %d: %q, %d", n, b, errno)
	}
	text += fmt.Sprintf("; disk %v, %d falls, %d used", d.Up(), d.Falls(), d.Used())
	for _, name := range d.List() {
		b, _ := d.Read(name)
		text += fmt.Sprintf("; %q: %q, %d safe", name, b, d.Safe(name))
	}
	return text
}

// asThePlainOne holds a log against the plain one, call by call.
func asThePlainOne(t *testing.T, room int, row []call) bool {
	t.Helper()
	d, e := newDisk(t, room), newDisk(t, room)
	var l *seglog.Log
	var p *plain
	for i, c := range row {
		var got, want api.Errno
		switch {
		case c.kind == openIt:
			l, got = seglog.Open(d, c.text, c.n)
			p, want = plainOpen(e, c.text, c.n)
			if (l == nil) != (p == nil) {
				t.Errorf("room %d: behind %v there is a log: %v, want %v", room, row[:i+1], l != nil, p != nil)
				return false
			}
		case c.kind >= crash:
			c.onDisk(d)
			c.onDisk(e)
		default:
			got, want = c.onLog(l), c.onLog(p)
		}
		if got != want {
			t.Errorf("room %d: %v is answered %d, want %d", room, row[:i+1], got, want)
			return false
		}
		if is, was := tells(l, d), tells(p, e); is != was {
			t.Errorf("room %d: behind %v\n%s, want\n%s", room, row[:i+1], is, was)
			return false
		}
	}
	return true
}
