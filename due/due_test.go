package due_test

import (
	"fmt"
	"math"
	"slices"
	"testing"

	"equerry/due"
)

const greatest uint64 = math.MaxUint64

// list is what a list of dues, and the plain one that it is held against, can be told and asked.
type list interface {
	Set(key, at uint64)
	Cut(key uint64) bool
	At(key uint64) (uint64, bool)
	Next() (uint64, bool)
	Take(now uint64) []uint64
	Len() int
}

// pair is a key, and when it is due.
type pair struct{ key, at uint64 }

// plain is a list of dues without any order: each call goes through all of it.
type plain struct{ pairs []pair }

func (p *plain) find(key uint64) int {
	return slices.IndexFunc(p.pairs, func(x pair) bool { return x.key == key })
}

func (p *plain) Set(key, at uint64) {
	p.Cut(key)
	p.pairs = append(p.pairs, pair{key, at})
}

func (p *plain) Cut(key uint64) bool {
	i := p.find(key)
	if i < 0 {
		return false
	}
	p.pairs = slices.Delete(p.pairs, i, i+1)
	return true
}

func (p *plain) At(key uint64) (uint64, bool) {
	i := p.find(key)
	if i < 0 {
		return 0, false
	}
	return p.pairs[i].at, true
}

// first is where the pair stands that is taken ahead of all others; -1, if there is none.
func (p *plain) first() int {
	best := -1
	for i, x := range p.pairs {
		if best < 0 || x.at < p.pairs[best].at || x.at == p.pairs[best].at && x.key < p.pairs[best].key {
			best = i
		}
	}
	return best
}

func (p *plain) Next() (uint64, bool) {
	i := p.first()
	if i < 0 {
		return 0, false
	}
	return p.pairs[i].at, true
}

func (p *plain) Take(now uint64) []uint64 {
	var taken []uint64
	for i := p.first(); i >= 0 && p.pairs[i].at <= now; i = p.first() {
		taken = append(taken, p.pairs[i].key)
		p.pairs = slices.Delete(p.pairs, i, i+1)
	}
	return taken
}

func (p *plain) Len() int { return len(p.pairs) }

// The kinds of calls.
const (
	set = iota
	cut
	at
	next
	take
	length
	kinds
)

// call is a call of a list; which numbers count its kind says.
type call struct {
	kind    int
	key, at uint64
}

func (c call) String() string {
	switch c.kind {
	case set:
		return fmt.Sprintf("Set(%d, %d)", c.key, c.at)
	case cut:
		return fmt.Sprintf("Cut(%d)", c.key)
	case at:
		return fmt.Sprintf("At(%d)", c.key)
	case next:
		return "Next()"
	case take:
		return fmt.Sprintf("Take(%d)", c.at)
	}
	return "Len()"
}

// answer is all that a call answers, as a text.
func (c call) answer(l list) string {
	switch c.kind {
	case set:
		l.Set(c.key, c.at)
		return ""
	case cut:
		return fmt.Sprint(l.Cut(c.key))
	case at:
		return fmt.Sprint(l.At(c.key))
	case next:
		return fmt.Sprint(l.Next())
	case take:
		return fmt.Sprint(l.Take(c.at))
	}
	return fmt.Sprint(l.Len())
}

// look is all that a list answers of its keys, without changing it.
func look(l list, keys []uint64) string {
	first, there := l.Next()
	all := fmt.Sprint(l.Len(), first, there)
	for _, k := range keys {
		when, there := l.At(k)
		all += fmt.Sprint(" ", k, when, there)
	}
	return all
}

// asThePlainOne goes through a row of calls with a list and the plain one; with often, it looks behind each of them.
func asThePlainOne(t *testing.T, row []call, keys []uint64, often bool) bool {
	t.Helper()
	d, p := due.New(), &plain{}
	for i, c := range row {
		got, want := c.answer(d), c.answer(p)
		if got != want {
			t.Errorf("%v: the last one answers %s, not %s", row[:i+1], got, want)
			return false
		}
		if !often && i+1 < len(row) {
			continue
		}
		if got, want := look(d, keys), look(p, keys); got != want {
			t.Errorf("behind %v there is %s, not %s", row[:i+1], got, want)
			return false
		}
	}
	return true
}

// noise is n numbers that look like chance, and are the same each time.
func noise(seed uint64, n int) []uint64 {
	all := make([]uint64, n)
	for i := range all {
		seed = seed*6364136223846793005 + 1442695040888963407
		all[i] = seed ^ seed>>29
	}
	return all
}

// of is a list with pairs, set in their order.
func of(pairs ...pair) *due.Dues {
	d := due.New()
	for _, p := range pairs {
		d.Set(p.key, p.at)
	}
	return d
}

func wantTake(t *testing.T, d *due.Dues, now uint64, want ...uint64) {
	t.Helper()
	if got := d.Take(now); !slices.Equal(got, want) {
		t.Errorf("Take(%d): %v, not %v", now, got, want)
	}
}

func wantLen(t *testing.T, d *due.Dues, want int) {
	t.Helper()
	if got := d.Len(); got != want {
		t.Errorf("Len(): %d, not %d", got, want)
	}
}

func wantNext(t *testing.T, d *due.Dues, want uint64) {
	t.Helper()
	if got, there := d.Next(); got != want || !there {
		t.Errorf("Next(): %d, %v, not %d", got, there, want)
	}
}

func wantAt(t *testing.T, d *due.Dues, key, want uint64) {
	t.Helper()
	if got, there := d.At(key); got != want || !there {
		t.Errorf("At(%d): %d, %v, not %d", key, got, there, want)
	}
}

func wantCut(t *testing.T, d *due.Dues, key uint64, want bool) {
	t.Helper()
	if got := d.Cut(key); got != want {
		t.Errorf("Cut(%d): %v", key, got)
	}
}

// wantNot asks whether a key isn't there.
func wantNot(t *testing.T, d *due.Dues, key uint64) {
	t.Helper()
	if got, there := d.At(key); got != 0 || there {
		t.Errorf("At(%d): %d, %v, but it isn't there", key, got, there)
	}
}

// wantNone asks a list without keys all that it can be asked, and tells it all that changes nothing.
func wantNone(t *testing.T, d *due.Dues) {
	t.Helper()
	for range 2 {
		wantLen(t, d, 0)
		if got, there := d.Next(); got != 0 || there {
			t.Errorf("Next() of none: %d, %v", got, there)
		}
		for _, n := range []uint64{0, 1, 5, 1 << 63, greatest} {
			wantNot(t, d, n)
			wantCut(t, d, n, false)
			wantTake(t, d, n)
		}
	}
}

func TestTheExample(t *testing.T) {
	d := of(pair{1, 5}, pair{2, 5}, pair{3, 4})
	wantLen(t, d, 3)
	wantTake(t, d, 5, 3, 1, 2)
	wantNone(t, d)
}

func TestAListOfNone(t *testing.T) {
	if due.New() == nil {
		t.Fatal("New: nil")
	}
	wantNone(t, due.New())
	d := of(pair{1, 5})
	wantCut(t, d, 1, true)
	wantNone(t, d)
	d.Set(1, 5)
	wantTake(t, d, 5, 1)
	wantNone(t, d)
}

func TestANilList(t *testing.T) {
	var d *due.Dues
	wantNone(t, d)
	for _, n := range []uint64{0, 1, greatest} {
		d.Set(n, n)
		d.Set(n, 0)
		wantNone(t, d)
	}
}

func TestSetAgain(t *testing.T) {
	for _, later := range []uint64{0, 1, 4, 5, 6, 9, 10, 11, 100, greatest} {
		for key := range uint64(3) {
			d := of(pair{0, 5}, pair{1, 10}, pair{2, 1})
			d.Set(key, later)
			wantLen(t, d, 3)
			wantAt(t, d, key, later)
			p := &plain{pairs: []pair{{0, 5}, {1, 10}, {2, 1}}}
			p.Set(key, later)
			first, _ := p.Next()
			wantNext(t, d, first)
			wantTake(t, d, 5, p.Take(5)...)
			wantTake(t, d, greatest, p.Take(greatest)...)
			wantNone(t, d)
		}
	}
}

func TestSetToAnEarlierTime(t *testing.T) {
	d := of(pair{1, 10}, pair{2, 20}, pair{3, 30})
	d.Set(3, 5)
	wantLen(t, d, 3)
	wantAt(t, d, 3, 5)
	wantNext(t, d, 5)
	wantTake(t, d, 5, 3)
	wantTake(t, d, 30, 1, 2)
	wantNone(t, d)
}

func TestSetToALaterTime(t *testing.T) {
	d := of(pair{1, 10}, pair{2, 20}, pair{3, 30})
	d.Set(1, 40)
	wantLen(t, d, 3)
	wantAt(t, d, 1, 40)
	wantNext(t, d, 20)
	wantTake(t, d, 39, 2, 3)
	wantNext(t, d, 40)
	wantTake(t, d, 40, 1)
	wantNone(t, d)
}

func TestSetToTheSameTime(t *testing.T) {
	d := of(pair{1, 10}, pair{2, 10}, pair{1, 10}, pair{2, 10}, pair{1, 10})
	wantLen(t, d, 2)
	wantAt(t, d, 1, 10)
	wantNext(t, d, 10)
	wantTake(t, d, 10, 1, 2)
	wantNone(t, d)
}

func TestCut(t *testing.T) {
	cases := []struct {
		key, next uint64
		left      []uint64
	}{{1, 20, []uint64{2, 3}}, {2, 10, []uint64{1, 3}}, {3, 10, []uint64{1, 2}}}
	for _, c := range cases {
		d := of(pair{3, 30}, pair{1, 10}, pair{2, 20})
		wantCut(t, d, 4, false)
		wantCut(t, d, 10, false)
		wantLen(t, d, 3)
		wantCut(t, d, c.key, true)
		wantLen(t, d, 2)
		wantNot(t, d, c.key)
		wantNext(t, d, c.next)
		wantCut(t, d, c.key, false)
		wantLen(t, d, 2)
		wantTake(t, d, 30, c.left...)
		wantCut(t, d, c.left[0], false)
		wantNone(t, d)
	}
}

// eachOrder hands on every order of the numbers below n.
func eachOrder(n int, do func(order []uint64)) {
	var grow func(order []uint64)
	grow = func(order []uint64) {
		if len(order) == n {
			do(slices.Clone(order))
			return
		}
		for k := range uint64(n) {
			if !slices.Contains(order, k) {
				grow(append(order, k))
			}
		}
	}
	grow(nil)
}

func TestCutOfEachKeyInEachOrder(t *testing.T) {
	for n := range 7 {
		eachOrder(n, func(order []uint64) {
			for gone := range uint64(n) {
				d := due.New()
				var left []uint64
				for i, k := range order {
					d.Set(k, 100+k)
					if k := uint64(i); k != gone {
						left = append(left, k)
					}
				}
				wantCut(t, d, gone, true)
				wantNot(t, d, gone)
				for _, k := range left {
					wantAt(t, d, k, 100+k)
				}
				wantTake(t, d, greatest, left...)
				wantNone(t, d)
			}
		})
	}
}

func TestCutOfEachKeyOfMany(t *testing.T) {
	const n = 33
	for gone := range uint64(n) {
		var row []call
		var keys []uint64
		for i, at := range noise(gone, n) {
			row = append(row, call{set, uint64(i), at % 16})
			keys = append(keys, uint64(i))
		}
		row = append(row, call{cut, gone, 0}, call{take, 0, 3}, call{cut, (gone + 1) % n, 0}, call{take, 0, 11}, call{take, 0, 15})
		if !asThePlainOne(t, row, keys, true) {
			return
		}
	}
}

func TestAt(t *testing.T) {
	d := of(pair{1, 10}, pair{2, 20}, pair{3, 30})
	for range 2 {
		wantAt(t, d, 1, 10)
		wantAt(t, d, 2, 20)
		wantAt(t, d, 3, 30)
		wantNot(t, d, 0)
		wantNot(t, d, 4)
		wantNot(t, d, 10)
		wantLen(t, d, 3)
	}
	wantCut(t, d, 2, true)
	wantNot(t, d, 2)
	wantTake(t, d, 10, 1)
	wantNot(t, d, 1)
	wantAt(t, d, 3, 30)
}

func TestNextBehindEachKindOfCall(t *testing.T) {
	d := of(pair{1, 10})
	wantNext(t, d, 10)
	wantNext(t, d, 10)
	d.Set(2, 20)
	wantNext(t, d, 10)
	d.Set(3, 5)
	wantNext(t, d, 5)
	d.Set(3, 15)
	wantNext(t, d, 10)
	wantCut(t, d, 3, true)
	wantNext(t, d, 10)
	wantCut(t, d, 9, false)
	wantNext(t, d, 10)
	wantAt(t, d, 2, 20)
	wantNext(t, d, 10)
	wantLen(t, d, 2)
	wantNext(t, d, 10)
	wantTake(t, d, 9)
	wantNext(t, d, 10)
	wantCut(t, d, 1, true)
	wantNext(t, d, 20)
	d.Set(1, 11)
	wantNext(t, d, 11)
	wantTake(t, d, 12, 1)
	wantNext(t, d, 20)
	wantTake(t, d, 20, 2)
	wantNone(t, d)
}

func TestTakeByItsTime(t *testing.T) {
	cases := []struct {
		now  uint64
		want []uint64
	}{
		{0, nil}, {9, nil}, {10, []uint64{4}}, {11, []uint64{4}}, {19, []uint64{4}}, {20, []uint64{4, 2}}, {29, []uint64{4, 2}},
		{30, []uint64{4, 2, 1, 3}}, {31, []uint64{4, 2, 1, 3}}, {1 << 63, []uint64{4, 2, 1, 3}}, {greatest, []uint64{4, 2, 1, 3}},
	}
	for _, c := range cases {
		d := of(pair{3, 30}, pair{2, 20}, pair{1, 30}, pair{4, 10})
		wantTake(t, d, c.now, c.want...)
		wantLen(t, d, 4-len(c.want))
		wantTake(t, d, c.now)
		wantTake(t, d, 0)
		wantLen(t, d, 4-len(c.want))
		wantTake(t, d, greatest, []uint64{4, 2, 1, 3}[len(c.want):]...)
		wantNone(t, d)
	}
}

func TestTheLowerKeyFirstOfOneTime(t *testing.T) {
	for n := range 7 {
		eachOrder(n, func(order []uint64) {
			d := due.New()
			for _, k := range order {
				d.Set(k, 7)
			}
			wantTake(t, d, 6)
			sorted := slices.Sorted(slices.Values(order))
			wantTake(t, d, 7, sorted...)
			wantNone(t, d)
		})
	}
	d := of(pair{greatest, 7}, pair{1 << 63, 7}, pair{0, 7}, pair{1<<63 - 1, 7}, pair{1 << 32, 7}, pair{1, 7})
	wantTake(t, d, 7, 0, 1, 1<<32, 1<<63-1, 1<<63, greatest)
}

func TestTheTimeCountsAheadOfTheKey(t *testing.T) {
	d := due.New()
	var want []uint64
	for k := range uint64(50) {
		d.Set(k, 1000-k/2)
	}
	for k := uint64(48); ; k -= 2 {
		want = append(want, k, k+1)
		if k == 0 {
			break
		}
	}
	wantTake(t, d, 1000, want...)
}

func TestWhatWasTakenCanBeSetAgain(t *testing.T) {
	d := of(pair{1, 5}, pair{2, 6}, pair{3, 9})
	wantTake(t, d, 6, 1, 2)
	wantCut(t, d, 1, false)
	wantCut(t, d, 2, false)
	d.Set(2, 6)
	d.Set(1, 12)
	wantLen(t, d, 3)
	wantAt(t, d, 2, 6)
	wantNext(t, d, 6)
	wantTake(t, d, 6, 2)
	wantTake(t, d, 6)
	wantTake(t, d, 12, 3, 1)
	wantNone(t, d)
}

func TestWhatWasCutCanBeSetAgain(t *testing.T) {
	d := of(pair{1, 5}, pair{2, 6})
	wantCut(t, d, 1, true)
	d.Set(1, 7)
	wantLen(t, d, 2)
	wantAt(t, d, 1, 7)
	wantTake(t, d, 5)
	wantTake(t, d, 7, 2, 1)
	wantNone(t, d)
}

func TestLenBehindEachKindOfCall(t *testing.T) {
	d := due.New()
	for k := range uint64(5) {
		d.Set(k, 10*k)
		wantLen(t, d, int(k)+1)
		d.Set(k, 10*k+1)
		wantLen(t, d, int(k)+1)
	}
	wantCut(t, d, 9, false)
	wantLen(t, d, 5)
	wantCut(t, d, 4, true)
	wantLen(t, d, 4)
	wantAt(t, d, 1, 11)
	wantNot(t, d, 4)
	wantNext(t, d, 1)
	wantLen(t, d, 4)
	wantTake(t, d, 0)
	wantLen(t, d, 4)
	wantTake(t, d, 11, 0, 1)
	wantLen(t, d, 2)
	wantTake(t, d, greatest, 2, 3)
	wantLen(t, d, 0)
}

func TestTheLeastAndTheGreatestNumbers(t *testing.T) {
	d := of(pair{0, greatest}, pair{greatest, 0}, pair{1, greatest - 1}, pair{greatest - 1, 1}, pair{5, greatest}, pair{7, 0})
	wantAt(t, d, 0, greatest)
	wantAt(t, d, greatest, 0)
	wantNext(t, d, 0)
	wantTake(t, d, 0, 7, greatest)
	wantNext(t, d, 1)
	wantTake(t, d, 1<<63, greatest-1)
	wantNext(t, d, greatest-1)
	wantTake(t, d, greatest-2)
	wantTake(t, d, greatest-1, 1)
	wantNext(t, d, greatest)
	wantTake(t, d, greatest, 0, 5)
	wantNone(t, d)
	d.Set(0, 0)
	wantLen(t, d, 1)
	wantAt(t, d, 0, 0)
	wantNext(t, d, 0)
	wantCut(t, d, 0, true)
	wantNone(t, d)
}

// edges are numbers at the edges of what a key, or a time, holds.
func edges() []uint64 {
	return []uint64{0, 1, 2, math.MaxInt32, 1 << 31, math.MaxUint32, 1 << 32, math.MaxInt64, 1 << 63, greatest - 1, greatest}
}

func TestAllPairsOfEdges(t *testing.T) {
	for _, a := range edges() {
		for _, b := range edges() {
			for _, key := range edges() {
				row := []call{{set, key, a}, {set, ^key, b}, {set, key ^ 1<<63, a}, {take, 0, min(a, b)}, {set, key, b}, {cut, ^key, 0}, {take, 0, a}, {take, 0, greatest}}
				if !asThePlainOne(t, row, []uint64{key, ^key, key ^ 1<<63}, true) {
					return
				}
			}
		}
	}
}

// changes are the calls that may change a list, of few keys and times.
func changes(keys, times int) []call {
	var all []call
	for k := range uint64(keys) {
		all = append(all, call{cut, k, 0})
		for when := range uint64(times) {
			all = append(all, call{set, k, when})
		}
	}
	for when := range uint64(times) {
		all = append(all, call{take, 0, when})
	}
	return all
}

func TestAllShortRowsOfCalls(t *testing.T) {
	each := changes(3, 2)
	for n := range 5 {
		row, count := make([]call, n+1), 1
		for range row {
			count *= len(each)
		}
		for number := range count {
			for i := range row {
				row[i], number = each[number%len(each)], number/len(each)
			}
			if !asThePlainOne(t, row, []uint64{0, 1, 2}, false) {
				return
			}
		}
	}
}

// longRow is n calls of all kinds, of keys and times below bounds (0: of any); times rise slowly, if they are drawn from a window.
func longRow(seed uint64, n int, keys, times, often uint64) []call {
	row := make([]call, 0, n)
	chance := noise(seed, 3*n)
	for i := range n {
		kind, key, when := chance[3*i]>>7, chance[3*i+1], chance[3*i+2]
		if keys > 0 {
			key = key >> 3 % keys
		}
		if times > 0 {
			when = when>>3%times + uint64(i)/8
		}
		c := call{set, key, when}
		if kind%often == 0 {
			c.kind = int(kind / often % kinds)
		}
		if c.kind == take && times > 0 {
			c.at = uint64(i) / 8
		}
		row = append(row, c)
	}
	return row
}

func TestLongRowsOfCalls(t *testing.T) {
	shapes := []struct{ keys, times, often uint64 }{
		{4, 4, 1}, {16, 8, 1}, {16, 1, 2}, {64, 40, 1}, {200, 100, 2}, {200, 3, 3}, {500, 2000, 2}, {16, 0, 1}, {100, 0, 4}, {0, 50, 1}, {0, 0, 5},
	}
	for i, s := range shapes {
		for seed := range uint64(6) {
			row := longRow(seed*100+uint64(i), 1500, s.keys, s.times, s.often)
			var keys []uint64
			for k := range min(s.keys, 64) {
				keys = append(keys, k)
			}
			if !asThePlainOne(t, row, keys, seed == 0) {
				return
			}
		}
	}
}

func TestManyKeys(t *testing.T) {
	const n = 20000
	d := due.New()
	var pairs []pair
	for i, when := range noise(11, n) {
		p := pair{uint64(i) * 0x9e3779b97f4a7c15, when % 5000}
		pairs = append(pairs, p)
		d.Set(p.key, p.at)
	}
	slices.SortFunc(pairs, func(a, b pair) int {
		if a.at < b.at || a.at == b.at && a.key < b.key {
			return -1
		}
		return 1
	})
	wantLen(t, d, n)
	for now := uint64(0); now < 5000; now += 7 {
		end := 0
		for end < len(pairs) && pairs[end].at <= now {
			end++
		}
		got := d.Take(now)
		if len(got) != end {
			t.Fatalf("Take(%d): %d keys, not %d", now, len(got), end)
		}
		for i, key := range got {
			if key != pairs[i].key {
				t.Fatalf("Take(%d): %d at place %d, not %d", now, key, i, pairs[i].key)
			}
		}
		pairs = pairs[end:]
	}
	wantLen(t, d, len(pairs))
}

// P6.2: behind each Take nothing that it answered is there, all that is left is due later, and no key is answered twice for one Set.
func TestEachIsTakenOnce(t *testing.T) {
	for seed := range uint64(20) {
		d, wait, taken := due.New(), map[uint64]uint64{}, 0
		sets := 0
		for i, c := range noise(seed, 600) {
			key, now := c>>5%50, uint64(i)/10
			if _, waits := wait[key]; !waits {
				sets++
			}
			wait[key] = now + c>>20%30
			d.Set(key, wait[key])
			if c%3 != 0 {
				continue
			}
			for _, k := range d.Take(now) {
				when, waits := wait[k]
				if !waits || when > now {
					t.Fatalf("taken at %d: %d, which waits: %v, up to %d", now, k, waits, when)
				}
				wantNot(t, d, k)
				delete(wait, k)
				taken++
			}
			for k, when := range wait {
				if when <= now {
					t.Fatalf("left at %d: %d, which is due at %d", now, k, when)
				}
				wantAt(t, d, k, when)
			}
			if first, there := d.Next(); there && first <= now {
				t.Fatalf("Next() is %d behind Take(%d)", first, now)
			}
			wantLen(t, d, len(wait))
			wantTake(t, d, now)
		}
		if taken += len(d.Take(greatest)); taken != sets {
			t.Fatalf("%d keys were taken, of %d", taken, sets)
		}
	}
}

func TestWhatIsTakenIsNewMemory(t *testing.T) {
	d := due.New()
	for k := range uint64(40) {
		d.Set(k, k)
	}
	first := d.Take(9)
	kept := slices.Clone(first)
	for i := range first {
		first[i] = 777
	}
	spare := first[:cap(first)]
	for i := range spare {
		spare[i] = 888
	}
	for k := uint64(10); k < 40; k++ {
		wantAt(t, d, k, k)
	}
	wantLen(t, d, 30)
	wantNot(t, d, 777)
	wantNot(t, d, 888)
	for _, k := range kept {
		wantNot(t, d, k)
	}
	second := d.Take(19)
	if !slices.Equal(second, []uint64{10, 11, 12, 13, 14, 15, 16, 17, 18, 19}) {
		t.Errorf("Take(19): %v", second)
	}
	for i := range first {
		if first[i] != 888 {
			t.Errorf("a later Take wrote into an earlier answer: %v", first)
		}
	}
	for i := range spare {
		spare[i] = 999
	}
	if !slices.Equal(second, []uint64{10, 11, 12, 13, 14, 15, 16, 17, 18, 19}) {
		t.Errorf("two answers share memory: %v", second)
	}
	wantNext(t, d, 20)
}

func TestWhatIsTakenStays(t *testing.T) {
	d := of(pair{1, 5}, pair{2, 5}, pair{3, 5}, pair{4, 9})
	taken := d.Take(5)
	for k := range uint64(20) {
		d.Set(k+100, k)
		d.Cut(k + 95)
		d.Take(k / 2)
	}
	if !slices.Equal(taken, []uint64{1, 2, 3}) {
		t.Errorf("an answer changed: %v", taken)
	}
}

func TestTwoListsHaveNothingToDoWithEachOther(t *testing.T) {
	a, b := due.New(), due.New()
	a.Set(1, 5)
	wantNone(t, b)
	b.Set(1, 9)
	b.Set(2, 3)
	wantAt(t, a, 1, 5)
	wantLen(t, a, 1)
	wantNot(t, a, 2)
	wantNext(t, a, 5)
	wantCut(t, b, 1, true)
	wantAt(t, a, 1, 5)
	wantTake(t, a, 5, 1)
	wantAt(t, b, 2, 3)
	wantLen(t, b, 1)
	wantTake(t, b, 9, 2)
	wantNone(t, a)
	wantNone(t, b)
}

func TestListsSideBySide(t *testing.T) {
	const n = 5
	var lists [n]*due.Dues
	var plains [n]plain
	for i := range lists {
		lists[i] = due.New()
	}
	for i, c := range longRow(77, 4000, 30, 20, 1) {
		who := int(noise(uint64(i), 1)[0] >> 9 % n)
		if got, want := c.answer(lists[who]), c.answer(&plains[who]); got != want {
			t.Fatalf("call %d, %v of list %d: %s, not %s", i, c, who, got, want)
		}
	}
	keys := make([]uint64, 30)
	for i := range keys {
		keys[i] = uint64(i)
	}
	for i := range lists {
		if got, want := look(lists[i], keys), look(&plains[i], keys); got != want {
			t.Errorf("list %d: %s, not %s", i, got, want)
		}
	}
}

func TestTheSameRowIsAnsweredTheSame(t *testing.T) {
	row := longRow(5, 2000, 40, 30, 1)
	var first []string
	for try := range 5 {
		d := due.New()
		for i, c := range row {
			got := c.answer(d)
			if try == 0 {
				first = append(first, got)
			} else if got != first[i] {
				t.Fatalf("call %d, %v: %s, and before %s", i, c, got, first[i])
			}
		}
	}
}

func FuzzAnyRows(f *testing.F) {
	f.Add([]byte{0, 1, 5, 0, 2, 5, 0, 3, 4, 4, 0, 5})
	f.Add([]byte{0, 0, 255, 0, 255, 0, 1, 0, 0, 3, 0, 0, 4, 0, 255})
	f.Fuzz(func(t *testing.T, b []byte) {
		var row []call
		var keys []uint64
		for ; len(b) >= 3; b = b[3:] {
			// the high bytes stretch to the greatest numbers
			row = append(row, call{int(b[0] % kinds), uint64(int64(int8(b[1]))), uint64(int64(int8(b[2])))})
			keys = append(keys, row[len(row)-1].key)
		}
		asThePlainOne(t, row, keys, false)
	})
}
