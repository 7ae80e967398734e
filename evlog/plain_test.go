package evlog_test

import (
	"encoding/binary"
	"fmt"
	"math"
	"slices"
	"testing"

	"equerry/api"
	"equerry/disk"
	"equerry/evlog"
	"equerry/seglog"
)

// A plain log does the chapter's words one by one, on a disk of its own: all that it was told stands in rows, and what is asked is looked for there each time.

type told struct {
	pub uint32
	seq uint64
}

type plain struct {
	log    *seglog.Log
	first  uint64       // the number of the first one of the events
	events []api.Logged // those that were there as it was opened, and those that were taken, be they trimmed or not
	notes  []told
	times  []uint64
}

// reading goes through bytes from the front.
type reading struct {
	b  []byte
	ok bool
}

func (r *reading) take(n uint64) []byte {
	if !r.ok || n > uint64(len(r.b)) {
		r.ok = false
		return nil
	}
	taken := r.b[:n]
	r.b = r.b[n:]
	return taken
}

func (r *reading) byte() byte {
	if b := r.take(1); r.ok {
		return b[0]
	}
	return 0
}

func (r *reading) number() uint64 {
	n, size := binary.Uvarint(r.b)
	r.take(uint64(max(size, 0)))
	r.ok = r.ok && size > 0
	return n
}

// field reads what may be; of another kind there is none.
func (r *reading) field() api.Value {
	v := api.Value{Kind: r.byte()}
	switch v.Kind {
	case api.None:
	case api.Whole:
		n := r.number()
		v.Int = int64(n>>1) ^ -int64(n&1)
	case api.Real:
		if b := r.take(8); r.ok {
			v.Real = math.Float64frombits(binary.BigEndian.Uint64(b))
		}
	case api.Text:
		n := r.number()
		v.Text = string(r.take(n))
		r.ok = r.ok && n <= 255
	default:
		r.ok = false
	}
	return v
}

// plainRead is the logged event that a record is: the one whose writing is just that.
func plainRead(record string) (api.Logged, bool) {
	r := &reading{[]byte(record), true}
	pub := r.number()
	l := api.Logged{Pub: uint32(pub), Seq: r.number(), At: r.number()}
	l.Event.Topic = r.byte()
	n := r.byte()
	for range min(n, 8) {
		l.Event.Fields = append(l.Event.Fields, r.field())
	}
	return l, r.ok && n <= 8 && pub < 1<<32 && writing(l) == record
}

// plainMay tells whether an event may be: it does if it is read as it was.
func plainMay(e api.Event) bool {
	read, ok := plainRead(writing(api.Logged{Event: e}))
	return ok && slices.EqualFunc(e.Fields, read.Event.Fields, func(a, b api.Value) bool {
		nan := a.Real != a.Real && b.Real != b.Real
		return a.Kind == b.Kind && a.Int == b.Int && a.Text == b.Text && (nan || math.Float64bits(a.Real) == math.Float64bits(b.Real))
	})
}

func plainOpen(d *disk.Disk, most int) (*plain, api.Errno) {
	log, errno := seglog.Open(d, "ev", most)
	if errno != api.OK {
		return nil, errno
	}
	p := &plain{log: log, first: log.Base()}
	for _, record := range log.All() {
		e, ok := plainRead(string(record))
		if !ok {
			return nil, api.ErrForm
		}
		p.events = append(p.events, e)
	}
	return p, api.OK
}

func (p *plain) Note(pub uint32, seq uint64) {
	if p != nil {
		p.notes = append(p.notes, told{pub, seq})
	}
}

func (p *plain) NoteTime(at uint64) {
	if p != nil {
		p.times = append(p.times, at)
	}
}

// time is the last time.
func (p *plain) time() uint64 {
	last := uint64(0)
	if n := len(p.events); n > 0 {
		last = p.events[n-1].At
	}
	return slices.Max(append(p.times, last))
}

func (p *plain) Seq(pub uint32) uint64 {
	if p == nil {
		return 0
	}
	last := uint64(0)
	for _, e := range p.events {
		if e.Pub == pub {
			last = e.Seq
		}
	}
	for _, n := range p.notes {
		if n.pub == pub {
			last = max(last, n.seq)
		}
	}
	return last
}

func (p *plain) Publish(pub uint32, seq, now uint64, e api.Event) (uint64, api.Errno) {
	switch {
	case p == nil || !plainMay(e) || now > 1<<40:
		return 0, api.ErrArg
	case seq <= p.Seq(pub):
		return 0, api.ErrOld
	case seq != p.Seq(pub)+1:
		return 0, api.ErrGap
	case p.End() == 1<<40:
		return 0, api.ErrRange
	}
	l := api.Logged{Pub: pub, Seq: seq, At: max(now, p.time()), Event: api.Event{Topic: e.Topic, Fields: slices.Clone(e.Fields)}}
	if errno := p.log.Append([]byte(writing(l))); errno != api.OK {
		return 0, errno
	}
	p.events = append(p.events, l)
	return p.first + uint64(len(p.events)) - 1, api.OK
}

func (p *plain) Sync() api.Errno {
	if p == nil {
		return api.ErrArg
	}
	return p.log.Sync()
}

func (p *plain) Trim(n uint64) api.Errno {
	if p == nil {
		return api.ErrArg
	}
	return p.log.Trim(n)
}

func (p *plain) Get(n uint64) (api.Logged, api.Errno) {
	switch {
	case p == nil:
		return api.Logged{}, api.ErrArg
	case n < p.Base() || n >= p.End():
		return api.Logged{}, api.ErrNone
	}
	return p.events[n-p.first], api.OK
}

func (p *plain) Base() uint64 {
	if p == nil {
		return 0
	}
	return p.log.Base()
}

func (p *plain) End() uint64 {
	if p == nil {
		return 0
	}
	return p.first + uint64(len(p.events))
}

func (p *plain) Safe() uint64 {
	if p == nil {
		return 0
	}
	return p.log.Safe()
}

func (p *plain) Pubs() []uint32 {
	if p == nil {
		return nil
	}
	var all []uint32
	for _, e := range p.events {
		all = append(all, e.Pub)
	}
	for _, n := range p.notes {
		if n.seq > 0 {
			all = append(all, n.pub)
		}
	}
	slices.Sort(all)
	return slices.Compact(all)
}

// logs are what a log, and the plain one that it is held against, can be told and asked.
type logs interface {
	Note(pub uint32, seq uint64)
	NoteTime(at uint64)
	Publish(pub uint32, seq, now uint64, e api.Event) (uint64, api.Errno)
	Sync() api.Errno
	Trim(n uint64) api.Errno
	Get(n uint64) (api.Logged, api.Errno)
	Seq(pub uint32) uint64
	Base() uint64
	End() uint64
	Safe() uint64
	Pubs() []uint32
}

var _, _ logs = (*evlog.Log)(nil), (*plain)(nil)

// tells is what a log tells as a text, and what its disk has.
func tells(l logs, d *disk.Disk) string {
	text := fmt.Sprintf("base %d, end %d, safe %d, pubs %v", l.Base(), l.End(), l.Safe(), l.Pubs())
	for pub := range uint32(6) {
		text += fmt.Sprintf(", %d", l.Seq(pub))
	}
	for n := l.Base() - 1; n != l.End()+1; n++ {
		e, errno := l.Get(n)
		text += fmt.Sprintf("; %d: %q, %d", n, writing(e), errno)
	}
	text += fmt.Sprintf("; disk %v, %d falls, %d used", d.Up(), d.Falls(), d.Used())
	for _, name := range d.List() {
		b, _ := d.Read(name)
		text += fmt.Sprintf("; %q: %q, %d safe", name, b, d.Safe(name))
	}
	return text
}

// asThePlainOne holds a log against the plain one, call by call.
func asThePlainOne(t *testing.T, room int, row []call) bool {
	t.Helper()
	d, e := newDisk(t, room), newDisk(t, room)
	var l *evlog.Log
	var p *plain
	for i, c := range row {
		var got, want string
		if c.kind == openIt {
			var is, was api.Errno
			l, is = evlog.Open(d, c.n)
			p, was = plainOpen(e, c.n)
			got, want = fmt.Sprint(is, l != nil), fmt.Sprint(was, p != nil)
		} else {
			seq := p.Seq(c.pub) + uint64(c.n) // the same of both
			got, want = c.do(l, d, seq), c.do(p, e, seq)
		}
		if got != want {
			t.Errorf("room %d: %v is answered %s, want %s", room, row[:i+1], got, want)
			return false
		}
		if is, was := tells(l, d), tells(p, e); is != was {
			t.Errorf("room %d: behind %v\n%s, want\n%s", room, row[:i+1], is, was)
			return false
		}
	}
	return true
}
