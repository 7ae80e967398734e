package seglog_test

import (
	"fmt"
	"math"
	"math/rand/v2"
	"strings"
	"testing"

	"equerry/api"
	"equerry/disk"
)

// The kinds of calls; from crash on they are a disk's.
const (
	appendIt = iota
	syncIt
	trimIt
	openIt
	crash
	wake
	fuse
	other    // bytes are put behind another file
	removeIt // a file is deleted
)

// call is a call of a log, or of its disk.
type call struct {
	kind int
	text string
	n, k int
	keep []int
}

func (c call) String() string {
	text := c.text
	if len(text) > 20 {
		text = fmt.Sprintf("%d bytes", len(text))
	}
	name := []string{"Append", "Sync", "Trim", "Open", "Crash", "Wake", "Fuse", "other", "Delete"}[c.kind]
	return fmt.Sprintf("%s(%q %d %d %v)", name, text, c.n, c.k, c.keep)
}

func (c call) onLog(l logs) api.Errno {
	switch c.kind {
	case appendIt:
		return l.Append([]byte(c.text))
	case syncIt:
		return l.Sync()
	}
	return l.Trim(uint64(c.n))
}

func (c call) onDisk(d *disk.Disk) {
	switch c.kind {
	case crash:
		d.Crash()
	case wake:
		d.Wake(c.keep)
	case fuse:
		d.Fuse(c.n, c.k)
	case other:
		d.Append("other", make([]byte, c.n))
	case removeIt:
		d.Delete(c.text)
	}
}

func openCall(most int) call { return call{kind: openIt, text: "l", n: most} }

// smallCalls are of a log that has a record or two a segment.
func smallCalls() []call {
	return []call{
		{kind: appendIt, text: "a"}, {kind: appendIt}, {kind: syncIt}, {kind: trimIt, n: 1}, {kind: trimIt, n: 2}, {kind: trimIt, n: 3},
		openCall(9), {kind: crash}, {kind: wake}, {kind: wake, keep: []int{3, 9, 9}},
		{kind: fuse}, {kind: fuse, n: 1, k: 4}, {kind: fuse, n: 2, k: 9}, {kind: fuse, n: 4, k: 5},
	}
}

// Behind each row is what shows a fuse that is left, and what is safe.
func TestAllShortRowsOfCalls(t *testing.T) {
	each := smallCalls()
	tail := []call{{kind: appendIt, text: "b"}, {kind: crash}, {kind: wake, keep: []int{1, 2, 3}}, {kind: syncIt}, openCall(9)}
	fronts := [][]call{
		{openCall(9)},
		{openCall(9), {kind: appendIt, text: "x"}, {kind: appendIt, text: "y"}, {kind: appendIt, text: "z"}},
		{openCall(17), {kind: appendIt, text: "x"}, {kind: appendIt}},
	}
	for n := range 4 {
		count := 1
		for range n {
			count *= len(each)
		}
		for _, front := range fronts {
			for number := range count {
				row := append([]call(nil), front...)
				for range n {
					row, number = append(row, each[number%len(each)]), number/len(each)
				}
				if !asThePlainOne(t, 70, append(row, tail...)) {
					return
				}
			}
		}
	}
}

// shape is of what a long row is made: how many bytes records have at most, and one fall in how many calls.
type shape struct{ most, bytes, fall int }

// longRow is n calls of all kinds; a log is opened anew behind most falls.
func longRow(r *rand.Rand, n int, s shape) []call {
	row := []call{openCall(s.most)}
	number := func() int { return r.IntN(n/2 + 2) }
	keep := func() []int {
		var kept []int
		for range r.IntN(6) {
			kept = append(kept, r.IntN(2*s.bytes+20)-2)
		}
		return kept
	}
	for len(row) < n {
		switch x := r.IntN(100); {
		case x < 50:
			row = append(row, call{kind: appendIt, text: strings.Repeat(string(rune('a'+len(row)%26)), r.IntN(s.bytes+1))})
		case x < 65:
			row = append(row, call{kind: syncIt})
		case x < 80:
			row = append(row, call{kind: trimIt, n: number()})
		case x < 84:
			row = append(row, openCall(s.most))
		case x < 86:
			row = append(row, openCall(r.IntN(3*s.most)-1))
		case x < 90:
			row = append(row, call{kind: other, n: r.IntN(40)})
		case x < 93:
			row = append(row, call{kind: removeIt, text: "other"})
		case r.IntN(s.fall) > 0:
			row = append(row, call{kind: syncIt})
		case x < 95:
			row = append(row, call{kind: crash}, call{kind: wake, keep: keep()}, openCall(s.most))
		case x < 96: // the log goes on, or tells that it is gone
			row = append(row, call{kind: crash}, call{kind: trimIt, n: number()}, call{kind: syncIt}, call{kind: wake, keep: keep()}, call{kind: appendIt})
		default:
			row = append(row, call{kind: fuse, n: r.IntN(12), k: r.IntN(2*s.bytes + 20)})
		}
		if r.IntN(20) == 0 {
			row = append(row, call{kind: wake, keep: keep()}, openCall(s.most))
		}
	}
	return row
}

func TestLongRowsOfCalls(t *testing.T) {
	shapes := []shape{{1, 2, 1}, {9, 3, 2}, {30, 6, 4}, {18, 1, 8}, {100, 30, 3}, {400, 9, 20}, {api.MaxDisk, 5, 5}}
	for i, s := range shapes {
		for seed := range uint64(12) {
			for _, room := range []int{0, 40, 150, 600, 5000} {
				row := longRow(rand.New(rand.NewPCG(seed, uint64(i))), 250, s)
				if !asThePlainOne(t, room, row) {
					return
				}
			}
		}
	}
}

// Rows whose log's own files go behind its back: calls end, and are answered as the disk does.
func TestRowsWhoseFilesGo(t *testing.T) {
	files := []string{"l.0", "l.1", "l.2", "l.3", "l.m", "l.t"}
	for seed := range uint64(200) {
		r := rand.New(rand.NewPCG(seed, 99))
		row := longRow(r, 40, shape{9, 3, 6})
		for i := 3; i < len(row); i += 9 {
			row[i] = call{kind: removeIt, text: files[r.IntN(len(files))]}
		}
		if !asThePlainOne(t, 400, row) {
			return
		}
	}
}

func TestRowsOfRecordsAtTheirBound(t *testing.T) {
	row := []call{openCall(1 << 17)}
	for i, n := range []int{api.MaxRecord, api.MaxRecord + 1, api.MaxRecord - 1, api.MaxRecord, 0, 2 * api.MaxRecord, 1} {
		row = append(row, call{kind: appendIt, text: strings.Repeat(string(rune('a'+i)), n)}, call{kind: trimIt, n: i}, call{kind: trimIt, n: math.MinInt})
	}
	row = append(row, call{kind: crash}, call{kind: appendIt, text: strings.Repeat("x", api.MaxRecord+1)}, call{kind: appendIt}, call{kind: wake, keep: []int{70000, 70000}}, openCall(9))
	for _, room := range []int{100, 70000, api.MaxDisk} {
		asThePlainOne(t, room, row)
	}
}
