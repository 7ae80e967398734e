package disk_test

import (
	"fmt"
	"math"
	"slices"
	"strings"
	"testing"

	"equerry/api"
	"equerry/disk"
)

// smallCalls are calls of two names and few bytes.
func smallCalls() []call {
	return []call{
		{kind: appendTo, name: "a", to: "12"}, {kind: appendTo, name: "a", to: ""}, {kind: appendTo, name: "b", to: "345"},
		{kind: sync, name: "a"}, {kind: sync, name: "b"},
		{kind: rename, name: "a", to: "b"}, {kind: rename, name: "b", to: "a"}, {kind: rename, name: "a", to: "a"},
		{kind: truncate, name: "a", n: 1}, {kind: truncate, name: "b", n: 2}, {kind: deleteIt, name: "a"},
		{kind: fuse}, {kind: fuse, k: 1}, {kind: fuse, n: 1, k: 2},
		{kind: crash}, {kind: wake}, {kind: wake, keep: []int{1, 2}},
	}
}

// Behind each row a fuse that is left shows by acts, and what is safe by a fall.
func TestAllShortRowsOfCalls(t *testing.T) {
	each := smallCalls()
	tail := []call{{kind: appendTo, name: "b", to: "6"}, {kind: sync, name: "b"}, {kind: crash}, {kind: wake, keep: []int{0, 1}}}
	for n := range 4 {
		row, count := make([]call, n+1, n+1+len(tail)), 1
		for range row {
			count *= len(each)
		}
		for number := range count {
			for i := range row {
				row[i], number = each[number%len(each)], number/len(each)
			}
			if !asThePlainOne(t, 7, append(row, tail...), []string{"a", "b"}, n < 3) {
				return
			}
		}
	}
}

// shape is of what a long row is made: how many names, how long texts are, and one fall in how many calls.
type shape struct{ names, bytes, fall int }

// nameOf is a name of one to 33 bytes; number 0 is no name.
func nameOf(n uint64) string {
	switch {
	case n == 0:
		return ""
	case n%7 == 3:
		return fmt.Sprintf("%032d", n)
	case n%31 == 5:
		return fmt.Sprintf("%033d", n)
	}
	return fmt.Sprintf("%c%d", 'z'-rune(n%5), n)
}

// longRow is n calls of all kinds.
func longRow(seed uint64, n int, s shape) []call {
	const per = 10
	row, chance := make([]call, 0, n), noise(seed, per*n)
	for i := range n {
		x := chance[per*i : per*i+per]
		c := call{name: nameOf(x[1] >> 9 % uint64(s.names)), n: int(x[2]>>9%uint64(2*s.bytes+2)) - 1, k: int(x[3]>>9%uint64(3*s.bytes+2)) - 1}
		switch c.kind = int(x[0] >> 9 % 12); {
		case c.kind == rename:
			c.to = nameOf(x[4] >> 9 % uint64(s.names))
		case c.kind >= kinds || c.kind == appendTo:
			c.kind, c.to = appendTo, strings.Repeat(string(rune('a'+i%26)), int(x[4]>>9%uint64(s.bytes+1)))
		case c.kind == wake:
			for _, k := range x[5 : 5+x[4]%5] {
				c.keep = append(c.keep, int(k>>9%uint64(4*s.bytes+4))-2)
			}
		case c.kind == crash && x[5]>>9%uint64(s.fall) > 0:
			c.kind = sync
		case c.kind == fuse && x[5]>>9%uint64(s.fall) > 0:
			c.kind = truncate
		}
		row = append(row, c)
	}
	return row
}

func names(n int) []string {
	var all []string
	for i := range uint64(n) {
		all = append(all, nameOf(i))
	}
	return all
}

func TestLongRowsOfCalls(t *testing.T) {
	shapes := []shape{{3, 3, 1}, {4, 5, 2}, {4, 5, 8}, {8, 20, 5}, {20, 10, 10}, {40, 3, 20}, {400, 2, 150}}
	for i, s := range shapes {
		for seed := range uint64(8) {
			for _, room := range []int{0, 6, 60, 2000} {
				row := longRow(1000*seed+uint64(i), 600, s)
				if !asThePlainOne(t, room, row, names(s.names), seed == 0) {
					return
				}
			}
		}
	}
}

// Rows whose disk is full of files, and whose numbers are at the edges.
func TestRowsOfManyFiles(t *testing.T) {
	var row []call
	for i := range 270 {
		row = append(row, call{kind: appendTo, name: fmt.Sprintf("%x", i*7), to: "abc"[:i%4]})
	}
	row = append(row, call{kind: rename, name: "7", to: "new"}, call{kind: appendTo, name: "7", to: ""}, call{kind: rename, name: "e", to: "new"}, call{kind: appendTo, name: "7", to: ""})
	for i := range 90 {
		row = append(row, call{kind: sync, name: fmt.Sprintf("%x", i*21)})
	}
	keep := []int{math.MaxInt, math.MinInt, 1, 2, 3, math.MaxInt32, -1}
	row = append(row, call{kind: fuse, n: 2, k: math.MaxInt}, call{kind: sync, name: "0"}, call{kind: deleteIt, name: "0"}, call{kind: appendTo, name: "0", to: "xyz"})
	row = append(row, call{kind: wake, keep: keep}, call{kind: crash}, call{kind: wake, keep: keep})
	var all []string
	for i := range 300 {
		all = append(all, fmt.Sprintf("%x", i*7))
	}
	asThePlainOne(t, 1000, row, all, true)
}

func TestTheSameRowIsAnsweredTheSame(t *testing.T) {
	row := longRow(5, 1000, shape{40, 6, 20})
	var first []string
	for try := range 5 {
		d, _ := disk.New(300)
		for i, c := range row {
			got := fmt.Sprint(int(c.answer(d)), seen(d, names(40)))
			if try == 0 {
				first = append(first, got)
			} else if got != first[i] {
				t.Fatalf("call %d, %v: %s, and before %s", i, c, got, first[i])
			}
		}
	}
}

// content is the files of a disk that is up: their bytes, and how many are safe.
func content(t *testing.T, d *disk.Disk) (map[string]string, map[string]int) {
	t.Helper()
	texts, safe := map[string]string{}, map[string]int{}
	for _, name := range d.List() {
		b, errno := d.Read(name)
		if errno != api.OK {
			t.Fatalf("Read(%q): %d", name, int(errno))
		}
		texts[name], safe[name] = string(b), d.Safe(name)
	}
	return texts, safe
}

// P7.2: behind a fall each file that was there is there, no other one is; each has what was safe, and behind it a beginning of what stood there.
func TestSafeIsSafe(t *testing.T) {
	for seed := range uint64(40) {
		d, _ := disk.New(200)
		for i, c := range longRow(seed, 400, shape{12, 9, 30}) {
			if c.kind == fuse || c.kind == crash || c.kind == wake {
				continue
			}
			c.answer(d)
			if i%5 != 0 {
				continue
			}
			texts, safe := content(t, d)
			d.Crash()
			var keep []int
			for _, k := range noise(seed+uint64(i), i%15) {
				keep = append(keep, int(k>>40))
			}
			d.Wake(keep)
			after, safeThen := content(t, d)
			if len(after) != len(texts) {
				t.Fatalf("%d files behind a fall, ahead of it %d", len(after), len(texts))
			}
			for name, text := range texts {
				left, there := after[name]
				if !there || !strings.HasPrefix(left, text[:safe[name]]) || !strings.HasPrefix(text, left) || safeThen[name] != len(left) {
					t.Fatalf("%q, %d safe: %q (%d safe) behind a fall", text, safe[name], left, safeThen[name])
				}
			}
		}
	}
}

// P7.2, of falls by a fuse at each act of a row: what the row made safe up to there is there, and all that is there was put there.
func TestAFallAtEachActOfARow(t *testing.T) {
	row := slices.DeleteFunc(longRow(9, 160, shape{6, 8, 1}), func(c call) bool { return c.kind >= fuse })
	for n := range row {
		for _, k := range []int{0, 1, 3, 8} {
			for _, more := range []int{0, 1, 1000} {
				d, _ := disk.New(60)
				d.Fuse(n, k)
				for _, c := range row[:n] {
					c.answer(d)
				}
				texts, safe := content(t, d)
				would, _ := disk.New(60)
				for _, c := range row[:n+1] {
					c.answer(would)
				}
				full, _ := content(t, would)
				wantErrno(t, row[n].String(), row[n].answer(d), api.ErrDown)
				wantState(t, d, false, 1)
				d.Wake([]int{more, more, more, more, more, more, more})
				after, _ := content(t, d)
				for name, text := range texts {
					if !strings.HasPrefix(after[name], text[:safe[name]]) {
						t.Fatalf("%v: %q, of which %d were safe, is %q", row[n], text, safe[name], after[name])
					}
				}
				for name, left := range after {
					bound := texts[name]
					if row[n].kind == appendTo && row[n].name == name {
						bound = full[name]
					}
					if !strings.HasPrefix(bound, left) {
						t.Fatalf("%v: %q is there, of %q", row[n], left, bound)
					}
				}
			}
		}
	}
}

func FuzzAnyRows(f *testing.F) {
	f.Add(uint8(20), []byte{0, 1, 5, 1, 1, 0, 6, 0, 0, 7, 0, 3})
	f.Add(uint8(9), []byte{5, 1, 2, 0, 1, 4, 0, 1, 4, 7, 9, 9, 2, 1, 2, 3, 2, 1, 4, 2, 0})
	f.Fuzz(func(t *testing.T, room uint8, b []byte) {
		var row []call
		for ; len(b) >= 3; b = b[3:] {
			x, y := int(int8(b[1])), int(int8(b[2]))
			c := call{kind: int(b[0]) % kinds, name: nameOf(uint64(b[1] % 8)), to: nameOf(uint64(b[2] % 8)), n: y, k: x, keep: []int{x, y, x + y}[:b[0]>>6]}
			if c.kind == appendTo {
				c.to = strings.Repeat("x", int(b[2]%16))
			}
			row = append(row, c)
		}
		asThePlainOne(t, int(room), row, names(8), true)
	})
}
