package evlog_test

import (
	"fmt"
	"math"
	"math/rand/v2"
	"slices"
	"strings"
	"testing"

	"equerry/api"
	"equerry/disk"
)

// The kinds of calls; from crash on they are a disk's.
const (
	publishIt = iota
	noteIt
	timeIt
	syncIt
	trimIt
	openIt
	crash
	wake
	fuse
	other    // bytes are put behind a file
	removeIt // a file is deleted
)

// call is a call of a log, or of its disk; of publishIt and noteIt n is what is added to the publisher's last number.
type call struct {
	kind int
	pub  uint32
	n    int
	now  uint64
	e    api.Event
	file string
	keep []int
}

func (c call) String() string {
	name := []string{"Publish", "Note", "NoteTime", "Sync", "Trim", "Open", "Crash", "Wake", "Fuse", "other", "Delete"}[c.kind]
	e := writing(api.Logged{Event: c.e})[3:]
	return fmt.Sprintf("%s(%d %+d %d %.20q %q %v)", name, c.pub, c.n, c.now, e, c.file, c.keep)
}

// do makes the call, and tells what it is answered.
func (c call) do(l logs, d *disk.Disk, seq uint64) string {
	switch c.kind {
	case publishIt:
		n, errno := l.Publish(c.pub, seq, c.now, c.e)
		return fmt.Sprint(n, errno)
	case noteIt:
		l.Note(c.pub, seq)
	case timeIt:
		l.NoteTime(c.now)
	case syncIt:
		return fmt.Sprint(l.Sync())
	case trimIt:
		return fmt.Sprint(l.Trim(uint64(c.n)))
	case crash:
		d.Crash()
	case wake:
		d.Wake(c.keep)
	case fuse:
		d.Fuse(c.n, int(c.now))
	case other:
		d.Append(c.file, []byte(c.e.Fields[0].Text))
	case removeIt:
		d.Delete(c.file)
	}
	return ""
}

// junk is a call that puts a text behind a file.
func junk(file, text string) call {
	return call{kind: other, file: file, e: api.Event{Fields: []api.Value{{Kind: api.Text, Text: text}}}}
}

func openCall(most int) call { return call{kind: openIt, n: most} }

func publishCall(pub uint32, n int, now uint64) call {
	return call{kind: publishIt, pub: pub, n: n, now: now, e: topic(pub, now)}
}

// smallCalls are of a log that has two events a segment.
func smallCalls() []call {
	bad := publishCall(1, 1, 3)
	bad.e.Fields = []api.Value{{Kind: 9}}
	return []call{
		publishCall(1, 1, 3), publishCall(2, 1, 4), publishCall(1, 1, 0), publishCall(1, 0, 5), publishCall(2, 2, 5), publishCall(1, 1, api.MaxTime+1), bad,
		{kind: noteIt, pub: 1, n: 1}, {kind: noteIt, pub: 2, n: -1}, {kind: noteIt, pub: 3}, {kind: timeIt, now: 4}, {kind: timeIt, now: 2},
		{kind: syncIt}, {kind: trimIt, n: 2}, {kind: trimIt, n: 3},
		openCall(2 * short), {kind: crash}, {kind: wake}, {kind: wake, keep: []int{3, short, short}},
		{kind: fuse}, {kind: fuse, n: 1, now: 4}, {kind: fuse, n: 5, now: 5},
	}
}

// Behind each row is what shows a fuse that is left, what is safe, and the last time.
func TestAllShortRowsOfCalls(t *testing.T) {
	each := smallCalls()
	tail := []call{publishCall(3, 1, 0), {kind: crash}, {kind: wake, keep: []int{1, 2, 3}}, {kind: syncIt}, openCall(2 * short), publishCall(1, 1, 0)}
	fronts := [][]call{
		nil,
		{openCall(2 * short)},
		{openCall(2 * short), publishCall(1, 1, 2), publishCall(2, 1, 3), publishCall(1, 1, 3)},
		{openCall(1), publishCall(2, 1, 6), publishCall(2, 1, 7), {kind: syncIt}, openCall(2 * short)},
	}
	for n := range 4 {
		count := 1
		for range n {
			count *= len(each)
		}
		for _, front := range fronts {
			for number := range count {
				row := slices.Clone(front)
				for range n {
					row, number = append(row, each[number%len(each)]), number/len(each)
				}
				if !asThePlainOne(t, 90, append(row, tail...)) {
					return
				}
			}
		}
	}
}

// shape is of what a long row is made: how many bytes a segment has, how much an event holds, and one fall in how many calls.
type shape struct{ most, bytes, fall int }

// noisyEvent is an event of anything, now and then one that may not be.
func noisyEvent(r *rand.Rand, bytes int) api.Event {
	e := api.Event{Topic: uint8(r.IntN(256))}
	n := r.IntN(4)
	if r.IntN(30) == 0 {
		n = 7 + r.IntN(3)
	}
	for range n {
		v := api.Value{Kind: uint8(r.IntN(4))}
		switch v.Kind {
		case api.Whole:
			v.Int = int64(r.Uint64()) >> r.IntN(64)
		case api.Real:
			v.Real = math.Float64frombits(r.Uint64())
		case api.Text:
			v.Text = strings.Repeat(string(rune('a'+r.IntN(26))), r.IntN(bytes+1))
		}
		if r.IntN(40) == 0 {
			v.Kind = uint8(r.IntN(6))
		}
		e.Fields = append(e.Fields, v)
	}
	return e
}

// noisyKeep is how much of files stays behind a fall.
func noisyKeep(r *rand.Rand, bytes int) []int {
	var kept []int
	for range r.IntN(6) {
		kept = append(kept, r.IntN(4*bytes+40)-2)
	}
	return kept
}

// noisyPublish is mostly of the next number, and mostly of a time that goes on.
func noisyPublish(r *rand.Rand, row, bytes int) call {
	c := call{kind: publishIt, pub: uint32(r.IntN(5)), n: 1, now: uint64(row), e: noisyEvent(r, bytes)}
	if r.IntN(6) == 0 {
		c.n = r.IntN(6) - 2
	}
	switch r.IntN(12) {
	case 0:
		c.now = uint64(r.IntN(2 * row))
	case 1:
		c.now = api.MaxTime + 1 + r.Uint64()>>uint(24+r.IntN(40))
	}
	return c
}

// longRow is n calls of all kinds; a log is opened anew behind most falls.
func longRow(r *rand.Rand, n int, s shape) []call {
	row := []call{openCall(s.most)}
	for len(row) < n {
		number := r.IntN(n/2 + 2)
		switch x := r.IntN(100); {
		case x < 50:
			row = append(row, noisyPublish(r, len(row), s.bytes))
		case x < 60:
			row = append(row, call{kind: syncIt})
		case x < 68:
			row = append(row, call{kind: trimIt, n: number})
		case x < 74:
			row = append(row, call{kind: noteIt, pub: uint32(r.IntN(6)), n: r.IntN(6) - 3})
		case x < 78:
			row = append(row, call{kind: timeIt, now: uint64(len(row) + r.IntN(9) - 6)})
		case x < 82:
			row = append(row, openCall(s.most))
		case x < 84:
			row = append(row, openCall(r.IntN(3*s.most)-1))
		case x < 88:
			row = append(row, junk("other", strings.Repeat("x", r.IntN(40))))
		case x < 91:
			row = append(row, call{kind: removeIt, file: "other"})
		case r.IntN(s.fall) > 0:
			row = append(row, call{kind: syncIt})
		case x < 94:
			row = append(row, call{kind: crash}, call{kind: wake, keep: noisyKeep(r, s.bytes)}, openCall(s.most))
		case x < 95: // the log goes on, or tells that it is gone
			row = append(row, call{kind: crash}, call{kind: trimIt, n: number}, call{kind: syncIt}, call{kind: wake, keep: noisyKeep(r, s.bytes)}, publishCall(1, 1, 5))
		default:
			row = append(row, call{kind: fuse, n: r.IntN(12), now: uint64(r.IntN(4*s.bytes + 40))})
		}
		if r.IntN(20) == 0 {
			row = append(row, call{kind: wake, keep: noisyKeep(r, s.bytes)}, openCall(s.most))
		}
	}
	return row
}

func TestLongRowsOfCalls(t *testing.T) {
	shapes := []shape{{1, 2, 1}, {2 * short, 3, 2}, {60, 6, 4}, {30, 1, 8}, {100, 30, 3}, {400, 9, 20}, {3000, 300, 9}, {api.MaxDisk, 5, 5}}
	for i, s := range shapes {
		for seed := range uint64(8) {
			for _, room := range []int{0, 60, 250, 900, 9000} {
				row := longRow(rand.New(rand.NewPCG(seed, uint64(i))), 160, s)
				if !asThePlainOne(t, room, row) {
					return
				}
			}
		}
	}
}

// Rows whose files go, or have other bytes, behind the log's back: calls end, and are answered as layer 9 does.
func TestRowsWhoseFilesAreSpoilt(t *testing.T) {
	files := []string{"ev.0", "ev.1", "ev.2", "ev.3", "ev.m", "ev.t"}
	texts := []string{"x", frame("junk"), frame(""), frames(logged(1, 1, 1)), frames(logged(4, 200, 1<<50)), manifest(0), frames(logged(2, 3, 0)) + "x"}
	for seed := range uint64(200) {
		r := rand.New(rand.NewPCG(seed, 99))
		row := longRow(r, 40, shape{2 * short, 3, 6})
		for i := 3; i < len(row); i += 9 {
			file := files[r.IntN(len(files))]
			row[i] = call{kind: removeIt, file: file}
			if r.IntN(2) == 0 {
				row[i] = junk(file, texts[r.IntN(len(texts))])
			}
		}
		if !asThePlainOne(t, 600, row) {
			return
		}
	}
}

// Rows up to the greatest number that an event may have, and over the greatest one of a publisher.
func TestRowsAtTheBoundsOfNumbers(t *testing.T) {
	for below := range uint64(6) {
		start := api.MaxIndex - below
		row := []call{junk("ev.m", manifest(start)), openCall(2 * short), {kind: noteIt, pub: 1, n: -3}, {kind: noteIt, pub: 2, n: -2}}
		for i := range 5 {
			row = append(row, publishCall(1, 1, uint64(i)), publishCall(1, 0, 9), publishCall(1, 3, 9), publishCall(2, 1, 3), publishCall(3, 2, 3), call{kind: trimIt, n: int(start) + i})
			if i%2 == 1 {
				row = append(row, call{kind: syncIt}, openCall(2*short), call{kind: noteIt, pub: 2, n: -2})
			}
		}
		asThePlainOne(t, 500, row)
	}
}
