package snap_test

import (
	"bytes"
	"encoding/binary"
	"fmt"
	"math"
	"math/big"
	"slices"

	"equerry/api"
)

const (
	mostNext = 1099511627776
	mostLast = 1099511627776
	mostRuns = 64
	most     = math.MaxUint64
)

// state and list are what engines have.
type (
	state = api.RunState
	list  = []api.Run
)

// run is a run.
func run(start, at, set uint64) api.Run { return api.Run{Start: start, At: at, Set: set} }

// on is a state that isn't Failed.
func on(next, last uint64, l ...api.Run) state { return state{Next: next, Last: last, Runs: l} }

// failed is a state that is Failed.
func failed(next, last, at uint64) state {
	return state{Next: next, Last: last, Failed: true, FailedAt: at}
}

// row is n runs, one tick and one event behind the other, each at an edge of its own.
func row(n int) list {
	l := make(list, n)
	for i := range l {
		l[i] = run(uint64(i), uint64(i), 1<<(i%64))
	}
	return l
}

// changed is a state with a list of its own, in which something is other.
func changed(s state, change func(s *state)) state {
	s.Runs = slices.Clone(s.Runs)
	change(&s)
	return s
}

// joined is its parts, one behind the other, in memory of its own.
func joined(parts ...[]byte) []byte { return bytes.Join(parts, nil) }

// numbered is some numbers' writings.
func numbered(all ...uint64) []byte {
	var b []byte
	for _, n := range all {
		b = binary.AppendUvarint(b, n)
	}
	return b
}

// parts are what a state's writing has: the byte is the third one, all others are numbers.
func parts(s state) []uint64 {
	if s.Failed {
		return []uint64{s.Next, s.Last, 1, s.FailedAt}
	}
	all := []uint64{s.Next, s.Last, 0, uint64(len(s.Runs))}
	for i, r := range s.Runs {
		if i == 0 {
			all = append(all, r.Start, r.At, r.Set)
		} else {
			all = append(all, r.Start-s.Runs[i-1].Start, r.At-s.Runs[i-1].At, r.Set)
		}
	}
	return all
}

// Which of the parts is the byte, which one tells how many Runs there are, and which one is the second run's Start.
const (
	flagPlace   = 2
	countPlace  = 3
	secondPlace = 7
)

// writing is the chapter's, of what is written.
func writing(s state) []byte { return numbered(parts(s)...) }

// plainWritten is the chapter's, clause by clause.
func plainWritten(s state) bool {
	rise, fall := true, false
	for i := range s.Runs {
		for k := range i {
			rise = rise && s.Runs[k].Start < s.Runs[i].Start
			fall = fall || s.Runs[k].At > s.Runs[i].At
		}
	}
	switch {
	case s.Next > mostNext, s.Last > mostLast, !s.Failed && s.FailedAt != 0, s.Failed && len(s.Runs) != 0, len(s.Runs) > mostRuns:
		return false
	}
	return rise && !fall
}

// plainNumber is layer 3's number at the front of some bytes, and how many bytes it has.
func plainNumber(b []byte) (uint64, int, api.Errno) {
	last := slices.IndexFunc(b, func(c byte) bool { return c < 128 })
	switch {
	case len(b) >= 10 && (last < 0 || last >= 9) && b[9] > 1:
		return 0, 0, 4
	case last < 0:
		return 0, 0, 3
	case last > 0 && b[last] == 0:
		return 0, 0, 2
	}
	n, size := binary.Uvarint(b)
	return n, size, 0
}

// plainSum is a sum, if it has room.
func plainSum(a, b uint64) (uint64, api.Errno) {
	sum := new(big.Int).Add(new(big.Int).SetUint64(a), new(big.Int).SetUint64(b))
	if !sum.IsUint64() {
		return 0, 5
	}
	return sum.Uint64(), 0
}

// plainRuns are the n runs whose writings some bytes begin with, and what is behind them.
func plainRuns(b []byte, n uint64) (list, []byte, api.Errno) {
	l := list{}
	for range n {
		var numbers [3]uint64
		for i := range numbers {
			n, size, errno := plainNumber(b)
			if errno == 0 && i < 2 && len(l) > 0 {
				ahead := l[len(l)-1]
				n, errno = plainSum(n, []uint64{ahead.Start, ahead.At}[i])
			}
			if errno != 0 {
				return nil, nil, errno
			}
			numbers[i], b = n, b[size:]
		}
		l = append(l, run(numbers[0], numbers[1], numbers[2]))
	}
	return l, b, 0
}

// plainFront is the state whose writing some bytes begin with, whether it is written or not, and what is behind it.
func plainFront(b []byte) (s state, behind []byte, errno api.Errno) {
	var next, last, n uint64
	var size int
	if next, size, errno = plainNumber(b); errno != 0 {
		return s, nil, errno
	}
	b = b[size:]
	if last, size, errno = plainNumber(b); errno != 0 {
		return s, nil, errno
	}
	b = b[size:]
	if len(b) == 0 {
		return s, nil, 3
	}
	flag := b[0]
	if flag != 0 && flag != 1 {
		return s, nil, 2
	}
	if n, size, errno = plainNumber(b[1:]); errno != 0 {
		return s, nil, errno
	}
	b = b[1+size:]
	if flag == 1 {
		return failed(next, last, n), b, 0
	}
	if n > mostRuns {
		return s, nil, 12
	}
	l, b, errno := plainRuns(b, n)
	return on(next, last, l...), b, errno
}

// plainGet is the chapter's.
func plainGet(b []byte) (state, api.Errno) {
	s, behind, errno := plainFront(b)
	switch {
	case errno != 0:
		return state{}, errno
	case len(behind) != 0:
		return state{}, 2
	case !plainWritten(s):
		return state{}, 1
	}
	return s, 0
}

// identical tells whether two are the same, field by field; a list that is nil is one without runs.
func identical(a, b state) bool {
	if a.Next != b.Next || a.Last != b.Last || a.Failed != b.Failed || a.FailedAt != b.FailedAt || len(a.Runs) != len(b.Runs) {
		return false
	}
	for i, r := range a.Runs {
		if r.Start != b.Runs[i].Start || r.At != b.Runs[i].At || r.Set != b.Runs[i].Set {
			return false
		}
	}
	return true
}

// noise is n numbers that look like chance, and are the same each time.
func noise(seed uint64, n int) []uint64 {
	all := make([]uint64, n)
	for i := range all {
		seed = seed*6364136223846793005 + 1442695040888963407
		all[i] = seed ^ seed>>29
	}
	return all
}

// numbers are some of one byte, two, and so on up to ten, from the edges of each.
func numbers() []uint64 {
	all := []uint64{0, 1, 2, 5}
	for bit := 7; bit < 64; bit += 7 {
		all = append(all, 1<<bit-1, 1<<bit, 1<<bit+1)
	}
	return append(all, 1<<32-1, 1<<32, 1<<40-1, 1<<40, 1<<40+1, 1<<63-1, 1<<63+1, most-1, most)
}

// upTo are those of the numbers that are at most one.
func upTo(n uint64) []uint64 {
	return slices.DeleteFunc(numbers(), func(other uint64) bool { return other > n })
}

// step is a number by noise, of any size.
func step(c uint64) uint64 { return c >> (c % 64) }

// climbing are n runs by noise, of which the first one is as told, and which stay in 64 bits.
func climbing(seed uint64, n int, start, at uint64) list {
	l, c := list{}, noise(seed, 3*n)
	for i := range n {
		l = append(l, run(start, at, c[3*i]))
		start += min(1+step(c[3*i+1]), (most-start)/2)
		at += min(step(c[3*i+2]), (most-at)/2)
	}
	return l
}

// written are states that are, of all shapes.
func written() []state {
	all := []state{{}}
	for _, n := range upTo(mostNext) {
		for _, m := range upTo(mostLast) {
			all = append(all, on(n, m), failed(n, m, 0), failed(n, m, n), on(n, m, run(n, m, 1)))
		}
	}
	for _, n := range numbers() {
		all = append(all, failed(300, 9, n), failed(n%(mostNext+1), 0, most))
		all = append(all, on(300, 9, run(n, 2, 3)), on(300, 9, run(5, n, 3)), on(300, 9, run(5, 2, n)), on(0, 0, run(n, most-n, n)))
		for _, m := range upTo(n) {
			if m < n {
				all = append(all, on(7, 9, run(m, m, 1), run(n, n, 2)), on(7, 9, run(m, 5, n), run(n, 5, m)))
			}
			all = append(all, on(7, 9, run(3, m, 128), run(4, n, 127)))
		}
	}
	for n := range mostRuns + 1 {
		all = append(all, on(64, 64, row(n)...), on(mostNext, mostLast, climbing(uint64(n), n, 0, 0)...), on(0, 0, climbing(uint64(n), n, most-4*mostRuns, most)...))
		for seed := range uint64(12) {
			c := noise(seed<<8|uint64(n), 4)
			all = append(all, on(step(c[0])%mostNext, step(c[1])%mostLast, climbing(seed, n, step(c[2]), step(c[3]))...))
		}
	}
	return slices.DeleteFunc(all, func(s state) bool { return !plainWritten(s) })
}

// short is a state as a message tells it.
func short(s state) string {
	told := fmt.Sprintf("next %d, last %d, failed %v at %d, %d runs:", s.Next, s.Last, s.Failed, s.FailedAt, len(s.Runs))
	for _, r := range s.Runs[:min(len(s.Runs), 5)] {
		told += fmt.Sprintf(" (%d, %d, %#x)", r.Start, r.At, r.Set)
	}
	return told
}
