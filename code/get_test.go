package code_test

import (
	"bytes"
	"slices"
	"testing"

	"equerry/api"
	"equerry/code"
	"equerry/tree"
)

// P13.1: Get

// wantGet wants a pattern to the last bit, and no error.
func wantGet(t *testing.T, b []byte, want api.Pattern) {
	t.Helper()
	if got, errno := code.Get(b); !identical(got, want) || errno != api.OK {
		t.Errorf("Get(%x) = %s, %v, want %s", b, short(got), errno, short(want))
	}
}

// wantNone wants an error, and no pattern beside it.
func wantNone(t *testing.T, b []byte, want api.Errno) {
	t.Helper()
	if got, errno := code.Get(b); got.Window != 0 || len(got.Nodes) != 0 || errno != want {
		t.Errorf("Get(%.60x of %d) = %s, %v, want %v", b, len(b), short(got), errno, want)
	}
}

// getAsSaid wants of some bytes what the chapter says, and answers the error.
func getAsSaid(t *testing.T, b []byte) api.Errno {
	t.Helper()
	want, errno := plainGet(b)
	if errno == api.OK {
		wantGet(t, b, want)
	} else {
		wantNone(t, b, errno)
	}
	return errno
}

// behinds are bytes that stand behind others, for which they don't count.
func behinds() [][]byte {
	return [][]byte{nil, {0}, {1}, {1, 0, 1}, {2, 2, 1, 0, 1, 1, 0, 2}, {5}, {17}, {255}, bytes.Repeat([]byte{1, 0, 7}, 40), bytes.Repeat([]byte{0xff}, 300), make([]byte, 300)}
}

// wantNoneHere wants an error of bytes behind a window, whatever stands behind them: of a window that may be, and of such as may not.
func wantNoneHere(t *testing.T, row []byte, want api.Errno) {
	t.Helper()
	for _, behind := range behinds() {
		wantNone(t, joined([]byte{5}, row, behind), want)
	}
	for _, window := range []uint64{0, 300, 1 << 20, 1<<20 + 1, 1<<64 - 1} {
		wantNone(t, joined(numbered(window), row), want)
	}
}

func TestGetOfKnownPatterns(t *testing.T) {
	for b, p := range knownPatterns() {
		wantGet(t, []byte(b), p)
	}
}

func TestGetOfAll(t *testing.T) {
	for _, w := range patterns() {
		wantGet(t, w.bytes, w.p)
		if errno := getAsSaid(t, w.bytes); errno != api.OK {
			t.Errorf("by the chapter %x has the error %v", w.bytes, errno)
		}
	}
}

func TestGetOfTheWindow(t *testing.T) {
	wantNone(t, nil, api.ErrShort)
	wantNone(t, []byte{}, api.ErrShort)
	full := bytes.Repeat([]byte{0xff}, 9)
	for _, cut := range [][]byte{{0x80}, {0xff}, {0x80, 0x80}, {0xac, 0x82, 0xff}, full, joined(full[:8], []byte{0x80})} {
		wantNone(t, cut, api.ErrShort)
	}
	node := one(3).bytes()
	for _, long := range [][]byte{joined(full, []byte{2}), joined(full, []byte{3}), joined(full, []byte{0x7f}), joined(full, []byte{0x80}), joined(full, full), joined(bytes.Repeat([]byte{0x80}, 9), []byte{2})} {
		wantNone(t, long, api.ErrLong)
		wantNone(t, joined(long, node), api.ErrLong)
	}
	for _, form := range [][]byte{{0x80, 0}, {0x85, 0}, {0xff, 0}, {0x85, 0x80, 0}, joined(full, []byte{0})} {
		wantNone(t, form, api.ErrForm)
		wantNone(t, joined(form, node), api.ErrForm)
		wantNone(t, joined(form, []byte{5}), api.ErrForm)
	}
	for _, n := range windows() {
		wantNone(t, numbered(n), api.ErrShort) // no node
		wantGet(t, joined(numbered(n), node), within(n, one(3)).p)
	}
}

func TestGetOfWindowsThatMayNotBe(t *testing.T) {
	for _, n := range []uint64{0, 1<<20 + 1, 1<<20 + 2, 1 << 21, 1 << 32, 1<<32 + 5, 1 << 63, 1<<63 + 5, 1<<64 - 1} {
		for _, d := range []drawn{one(3), full(32), deep(8, one(1)), times(32), times(33), rep(8, 8, rep(8, 8, one(1)))} {
			w := within(n, d)
			wantNone(t, w.bytes, api.ErrRange)
			wantNone(t, joined(w.bytes, []byte{0}), api.ErrForm)
			wantNone(t, w.bytes[:len(w.bytes)-1], api.ErrShort)
		}
	}
	for _, n := range []uint64{1, 1<<20 - 1, 1 << 20} {
		w := within(n, one(3))
		wantGet(t, w.bytes, w.p)
	}
}

// Cut off anywhere, a byte isn't there.
func TestGetOfTooFewBytes(t *testing.T) {
	for _, w := range patterns() {
		room := slices.Clone(w.bytes)
		for have := range w.bytes {
			wantNone(t, room[:have], api.ErrShort) // what is behind the length doesn't count
		}
	}
}

func TestGetOfBytesThatAreLeft(t *testing.T) {
	for _, w := range patterns() {
		for _, behind := range behinds()[1:] {
			wantNone(t, joined(w.bytes, behind), api.ErrForm)
		}
	}
	for _, d := range []drawn{one(1), times(33)} {
		for _, n := range []uint64{0, 5, 1<<20 + 1} {
			wantNone(t, joined(within(n, d).bytes, []byte{0}), api.ErrForm)
		}
	}
}

// aheads are a pattern's beginnings, behind which a node stands that is in so many others: the first one, each part of a Seq, an Alt, and so on.
func aheads() map[string]int {
	one := "\x01\x00\x07"
	all := map[string]int{"": 0}
	for _, head := range []string{"\x02\x02", "\x03\x02", "\x02\x03", "\x02\xff", "\x12\x02\x00\x09", "\x12\x03\x01"} {
		all[head], all[head+one] = 1, 1
		all["\x04\x01\x02"+head], all["\x14\x02\x02\x10\x05\x00\x07\x00"+head+one] = 2, 2
		all[head+one+head], all[head+head+one] = 2, 2
	}
	all["\x04\x01\x01"], all["\x14\x01\x01\x01"] = 1, 1
	all["\x02\x02"+"\x02\x02"+one+one] = 1
	all["\x03\x02\x14\x08\x08\x00\x01"+one] = 1
	for n := 2; n <= 8; n++ {
		all[string(deep(n, drawn{}).own)+string(deep(n, drawn{}).parts)] = n
		all[string(bytes.Repeat([]byte{2, 2, 1, 0, 7}, n))] = n
		all[string(bytes.Repeat([]byte{3, 2}, n))] = n
	}
	return all
}

// mayBegin tells whether a byte is a node's first one.
func mayBegin(c byte) bool {
	return slices.Contains([]byte{1, 2, 3, 4, 18, 20}, c)
}

// All first bytes there are, of each node.
func TestGetOfEachFirstByte(t *testing.T) {
	for ahead, others := range aheads() {
		wantNone(t, joined([]byte{5}, []byte(ahead)), api.ErrShort)
		for c := range 256 {
			row := joined([]byte(ahead), []byte{byte(c)})
			switch {
			case !mayBegin(byte(c)):
				wantNoneHere(t, row, api.ErrKind)
			case c != api.One && others == 8:
				wantNoneHere(t, row, api.ErrDeep)
			default:
				wantNone(t, joined([]byte{5}, row), api.ErrShort)
				wantNone(t, joined([]byte{0}, row), api.ErrShort)
			}
		}
	}
}

// A Guard that a One or an Alt would have is none, though all else is there.
func TestGetOfGuardsThatAreNone(t *testing.T) {
	for _, q := range questions() {
		for _, d := range []drawn{guarded(q, one(1)), guarded(q, asks(q)), guarded(q, alt(one(1), one(2)))} {
			wantNone(t, within(5, d).bytes, api.ErrKind)
			wantNone(t, within(5, seq(one(1), d)).bytes, api.ErrKind)
			wantNone(t, within(5, deep(8, d)).bytes, api.ErrKind)
			wantNone(t, within(0, rep(1, 2, d)).bytes, api.ErrKind)
		}
	}
}

func TestGetOfWhatStandsInEightOthers(t *testing.T) {
	for _, q := range questions() {
		w := within(5, deep(8, asks(q)))
		wantGet(t, w.bytes, w.p)
		w = within(5, seq(deep(7, asks(q)), one(1), deep(7, asks(q))))
		wantGet(t, w.bytes, w.p)
	}
	for _, d := range []drawn{seq(one(1), one(2)), alt(one(1), one(2)), rep(1, 1, one(1)), guarded(asked(9), seq(one(1), one(2))), guarded(asked(9), rep(1, 1, one(1)))} {
		w := within(5, deep(7, d))
		wantGet(t, w.bytes, w.p)
		w = within(5, seq(deep(6, d), deep(6, d)))
		wantGet(t, w.bytes, w.p)
		wantNone(t, within(5, deep(8, d)).bytes, api.ErrDeep)
		wantNone(t, within(5, deep(9, d)).bytes, api.ErrDeep)
		wantNone(t, within(5, seq(one(1), deep(7, d))).bytes, api.ErrDeep)
		wantNone(t, within(5, alt(deep(7, one(1)), deep(7, d))).bytes, api.ErrDeep)
		for have := range d.bytes() { // told at its first byte
			want := api.ErrDeep
			if have == 0 {
				want = api.ErrShort
			}
			wantNone(t, joined([]byte{5}, deep(8, drawn{}).bytes(), d.bytes()[:have]), want)
		}
	}
}

// wides are patterns with parts on each level.
func wides() []func(d drawn) drawn {
	return []func(d drawn) drawn{
		func(d drawn) drawn { return seq(d, one(1)) },
		func(d drawn) drawn { return seq(one(1), d) },
		func(d drawn) drawn { return alt(one(1), d, one(2)) },
		func(d drawn) drawn { return guarded(asked(9), seq(one(1), d)) },
		func(d drawn) drawn { return guarded(asked(9), rep(1, 1, d)) },
	}
}

func TestGetOfHowDeep(t *testing.T) {
	for _, wrap := range wides() {
		d := one(1)
		for range 8 {
			d = wrap(d)
			w := within(5, d)
			wantGet(t, w.bytes, w.p)
		}
		wantNone(t, within(5, wrap(d)).bytes, api.ErrDeep)
		wantNone(t, within(5, wrap(wrap(d))).bytes, api.ErrDeep)
	}
}

// broad are beginnings of patterns, of 32 nodes each, behind which a 33rd one would stand: in one other, in two, in eight.
func broad() [][]byte {
	ones := func(n int) []byte { return bytes.Repeat([]byte{1, 0, 7}, n) }
	return [][]byte{
		joined([]byte{2, 32}, ones(31)), joined([]byte{3, 255}, ones(31)), joined([]byte{18, 32, 1}, ones(31)),
		joined([]byte{2, 3, 3, 29}, ones(30)), joined([]byte{2, 3, 1, 1, 3, 30}, ones(29)), joined([]byte{3, 32}, ones(30), []byte{20, 1, 2, 1}),
		joined(bytes.Repeat([]byte{2, 2}, 7), []byte{3, 25}, ones(24)), joined(bytes.Repeat([]byte{4, 1, 1}, 7), []byte{2, 255}, ones(24)),
	}
}

func TestGetOfTooManyNodes(t *testing.T) {
	for _, d := range []drawn{full(32), alt(ones(31)...), guarded(asked(9), seq(ones(31)...))} {
		w := within(5, d)
		wantGet(t, w.bytes, w.p)
	}
	for _, d := range []drawn{full(33), full(34), full(200), full(256), alt(ones(32)...), guarded(asked(9), seq(ones(32)...)), seq(full(16), full(16)), alt(deep(5, full(20)), full(10))} {
		wantNone(t, within(5, d).bytes, api.ErrMany)
		wantNone(t, within(0, d).bytes, api.ErrMany)
		wantNone(t, within(1<<20+1, d).bytes, api.ErrMany)
	}
	w := within(5, seq(full(16), full(15))) // 32
	wantGet(t, w.bytes, w.p)
}

// A 33rd node is told ahead of all that may be wrong with it: no byte, a byte that is none's, parts in 8 others.
func TestGetTellsTheThirtyThirdNodeFirst(t *testing.T) {
	for _, ahead := range broad() {
		wantNoneHere(t, ahead, api.ErrMany)
		for c := range 256 {
			wantNone(t, joined([]byte{5}, ahead, []byte{byte(c)}), api.ErrMany)
			wantNone(t, joined([]byte{5}, ahead, []byte{byte(c), 0, 0}), api.ErrMany)
		}
		wantNone(t, joined([]byte{5}, ahead[:len(ahead)-1]), api.ErrShort) // the 32nd one isn't there as a whole
	}
}

// Of a 32nd node all else is told: here it has parts, and stands in 8 others.
func TestGetOfTheLastNodeThatThereMayBe(t *testing.T) {
	ahead := joined(bytes.Repeat([]byte{2, 2}, 7), []byte{3, 255}, bytes.Repeat([]byte{1, 0, 7}, 23))
	for c := range 256 {
		want := api.ErrKind
		switch {
		case c == api.One:
			want = api.ErrShort
		case mayBegin(byte(c)):
			want = api.ErrDeep
		}
		wantNone(t, joined([]byte{5}, ahead, []byte{byte(c)}), want)
	}
	wantNone(t, joined([]byte{5}, ahead), api.ErrShort)
}

// heads are what stands ahead of how many parts a Seq or an Alt has.
func heads() [][]byte { return [][]byte{{2}, {3}, {18}} }

func TestGetOfHowManyParts(t *testing.T) {
	for ahead, others := range aheads() {
		if others == 8 {
			continue
		}
		for _, head := range heads() {
			wantNone(t, joined([]byte{5}, []byte(ahead), head), api.ErrShort)
			wantNoneHere(t, joined([]byte(ahead), head, []byte{0}), api.ErrForm)
			wantNoneHere(t, joined([]byte(ahead), head, []byte{1}), api.ErrForm)
			for n := 2; n < 256; n++ {
				wantNone(t, joined([]byte{5}, []byte(ahead), head, []byte{byte(n)}), api.ErrShort)
			}
		}
	}
	for n := 2; n < 256; n++ {
		for _, head := range heads() {
			guard := []byte{1}[:head[0]/18]
			row := joined([]byte{5}, head, []byte{byte(n)}, guard)
			parts := bytes.Repeat([]byte{1, 0, 7}, n)
			want := api.OK
			if n > 31 {
				want = api.ErrMany
			}
			if got := getAsSaid(t, joined(row, parts)); got != want {
				t.Errorf("of %d parts Get answers %v", n, got)
			}
			for fewer := range min(n, 32) {
				want := api.ErrShort
				if fewer == 31 {
					want = api.ErrMany
				}
				wantNone(t, joined(row, parts[:3*fewer]), want)
			}
			if n < 32 {
				wantNone(t, joined(row, parts, []byte{1, 0, 7}), api.ErrForm)
			}
		}
	}
}

// How many parts there are is told ahead of the guard.
func TestGetTellsPartsAheadOfTheGuard(t *testing.T) {
	for _, q := range refusedQuestions() {
		wantNoneHere(t, joined([]byte{18, 0}, q.bytes), api.ErrForm)
		wantNoneHere(t, joined([]byte{18, 1}, q.bytes), api.ErrForm)
		wantNoneHere(t, joined([]byte{18, 2}, q.bytes), q.errno)
		wantNoneHere(t, joined([]byte{18, 255}, q.bytes), q.errno)
	}
}

func TestGetOfLoAndHi(t *testing.T) {
	for lo := range 256 {
		wantNone(t, []byte{5, 4, byte(lo)}, api.ErrShort)
		wantNone(t, []byte{5, 20, byte(lo)}, api.ErrShort)
		wantNone(t, []byte{0, 2, 2, 4, byte(lo)}, api.ErrShort)
		for hi := range 256 {
			row := []byte{5, 4, byte(lo), byte(hi), 1, 0, 7}
			if 1 <= lo && lo <= hi && hi <= 8 {
				w := within(5, rep(byte(lo), byte(hi), one(7)))
				wantGet(t, row, w.p)
				w = within(5, guarded(asked(9), rep(byte(lo), byte(hi), one(7))))
				wantGet(t, w.bytes, w.p)
				wantNone(t, row[:4], api.ErrShort)
				continue
			}
			wantNone(t, row, api.ErrForm)
			wantNone(t, row[:4], api.ErrForm)
			wantNone(t, []byte{5, 20, byte(lo), byte(hi)}, api.ErrForm)
			wantNone(t, []byte{5, 20, byte(lo), byte(hi), 2}, api.ErrForm)
		}
	}
	for ahead, others := range aheads() {
		if others == 8 {
			continue
		}
		for _, kind := range []byte{4, 20} {
			row := joined([]byte{5}, []byte(ahead), []byte{kind})
			for _, lo := range []byte{0, 1, 8, 9, 255} { // Hi isn't there, whether Lo may be or not
				wantNone(t, joined(row, []byte{lo}), api.ErrShort)
			}
			for _, times := range [][]byte{{0, 0}, {0, 1}, {0, 8}, {2, 1}, {8, 7}, {8, 0}, {1, 9}, {9, 9}, {1, 255}, {255, 255}, {9, 8}} {
				wantNoneHere(t, joined(row[1:], times), api.ErrForm)
			}
		}
	}
}

// Each error of a question, in a One and in both Guards, at each place.
func TestGetOfRefusedQuestions(t *testing.T) {
	for ahead, others := range aheads() {
		for _, q := range refusedQuestions() {
			wantNoneHere(t, joined([]byte(ahead), []byte{1}, q.bytes), q.errno)
			if others < 8 {
				wantNoneHere(t, joined([]byte(ahead), []byte{18, 2}, q.bytes), q.errno)
				wantNoneHere(t, joined([]byte(ahead), []byte{20, 1, 8}, q.bytes), q.errno)
			}
		}
		for _, q := range questions() {
			for have := range q.bytes {
				wantNone(t, joined([]byte{5}, []byte(ahead), []byte{1}, q.bytes[:have]), api.ErrShort)
				if others < 8 {
					wantNone(t, joined([]byte{5}, []byte(ahead), []byte{18, 2}, q.bytes[:have]), api.ErrShort)
					wantNone(t, joined([]byte{5}, []byte(ahead), []byte{20, 1, 8}, q.bytes[:have]), api.ErrShort)
				}
			}
		}
	}
}

func TestGetOfTooManyPlaces(t *testing.T) {
	for places := 2; places <= 40; places++ {
		w := within(5, times(places))
		if places <= 32 {
			wantGet(t, w.bytes, w.p)
			continue
		}
		wantNone(t, w.bytes, api.ErrLong)
		wantNone(t, joined(w.bytes, []byte{1}), api.ErrForm)
		wantNone(t, within(0, times(places)).bytes, api.ErrRange)
		wantNone(t, within(1<<20+1, times(places)).bytes, api.ErrRange)
	}
	for _, d := range []drawn{rep(8, 8, rep(1, 4, one(1))), rep(2, 2, seq(ones(16)...)), rep(4, 4, alt(ones(8)...)), rep(1, 1, full(31))} {
		w := within(5, d)
		wantGet(t, w.bytes, w.p)
	}
	for _, d := range []drawn{rep(1, 8, rep(1, 5, one(1))), rep(1, 3, seq(ones(11)...)), deep(6, rep(1, 2, seq(ones(17)...))), rep(8, 8, rep(8, 8, rep(8, 8, rep(8, 8, one(1)))))} {
		wantNone(t, within(5, d).bytes, api.ErrLong)
	}
}

// Of two faults the one that stands ahead is told; each is a part here, and its error.
func TestGetTellsTheFrontError(t *testing.T) {
	parts := []refused{{[]byte{5}, api.ErrKind}, {[]byte{17, 1}, api.ErrKind}, {[]byte{2, 1}, api.ErrForm}, {[]byte{4, 2, 1}, api.ErrForm}, {deep(8, drawn{}).bytes(), api.ErrDeep}, {joined([]byte{2, 40}, bytes.Repeat([]byte{1, 1}, 31)), api.ErrMany}}
	for _, q := range refusedQuestions() {
		parts = append(parts, refused{joined([]byte{1}, q.bytes), q.errno}, refused{joined([]byte{18, 3}, q.bytes), q.errno}, refused{joined([]byte{20, 8, 8}, q.bytes), q.errno})
	}
	for _, first := range parts {
		if first.errno == api.ErrDeep {
			first.bytes = joined(first.bytes, []byte{3})
		}
		for _, next := range parts {
			wantNone(t, joined([]byte{5, 2, 2}, first.bytes, next.bytes), first.errno)
			wantNone(t, joined([]byte{5, 4, 1, 2, 3, 3, 1, 0, 7}, first.bytes, []byte{1, 1}, next.bytes), first.errno)
		}
		wantNone(t, joined([]byte{0x80, 0, 4, 1, 2}, first.bytes), api.ErrForm)
		wantNone(t, joined([]byte{0, 4, 1, 2}, first.bytes), first.errno)
	}
}

// likelyBytes are some that look like a pattern's writing, by noise, with places that are spoilt.
func likelyBytes(seed uint64) []byte {
	c := noise(seed, 5)
	window := append(windows(), 0, 1<<20+1)[c[0]%uint64(len(windows())+2)]
	b := within(window, grown(c[1], int(1+c[2]%34))).bytes
	for _, n := range c[:c[3]%3] {
		edges := []byte{0, 1, 2, 3, 4, 5, 8, 9, 16, 17, 18, 19, 20, 33, 0x80, 255}
		b[n>>9%uint64(len(b))] = edges[n>>40%16]
	}
	switch c[4] % 8 {
	case 0:
		return b[:c[4]>>8%uint64(len(b))]
	case 1:
		return joined(b, b[len(b)-1:])
	case 2:
		at := c[4] >> 8 % uint64(len(b))
		return joined(b[:at], b[at+1:])
	}
	return b
}

func TestGetOfLikelyBytes(t *testing.T) {
	told := map[api.Errno]int{}
	for seed := range uint64(30000) {
		told[getAsSaid(t, likelyBytes(seed))]++
	}
	for _, errno := range []api.Errno{api.OK, api.ErrMany, api.ErrForm, api.ErrShort, api.ErrKind, api.ErrArg, api.ErrDeep, api.ErrRange, api.ErrLong} {
		if told[errno] < 20 {
			t.Errorf("%v came out only %d times", errno, told[errno])
		}
	}
}

// eachRow does something with all rows of n bytes of a choice.
func eachRow(choice []byte, n int, do func(b []byte)) {
	row, places := make([]byte, n), make([]int, n)
	for {
		for i, place := range places {
			row[i] = choice[place]
		}
		do(row)
		at := n - 1
		for ; at >= 0 && places[at] == len(choice)-1; at-- {
			places[at] = 0
		}
		if at < 0 {
			return
		}
		places[at]++
	}
}

func TestGetOfAllShortRows(t *testing.T) {
	for n := range 5 {
		eachRow([]byte{0, 1, 2, 3, 4, 5, 8, 9, 16, 17, 18, 19, 20, 21, 32, 0x80, 255}, n, func(b []byte) { getAsSaid(t, b) })
	}
	may := 0
	for n := range 9 {
		eachRow([]byte{0, 1, 2, 18, 20}, n, func(b []byte) {
			if getAsSaid(t, joined([]byte{5}, b)) == api.OK {
				may++
			}
		})
	}
	if may < 50 {
		t.Errorf("only %d of all rows are patterns", may)
	}
}

// P13.2

func TestWhatIsPutIsGotAsItWas(t *testing.T) {
	for _, w := range patterns() {
		got, errno := code.Get(put(t, w.p))
		if !tree.Same(got, w.p) || !identical(got, w.p) || tree.May(got) != api.OK || errno != api.OK {
			t.Errorf("%s came back as %s, %v", short(w.p), short(got), errno)
		}
	}
}

// putAsItStood wants what is got to be one that may be, and to be put as it stood; it tells whether something was got.
func putAsItStood(t *testing.T, b []byte) bool {
	t.Helper()
	p, errno := code.Get(b)
	if errno != api.OK {
		return false
	}
	if tree.May(p) != api.OK || !bytes.Equal(put(t, p), b) {
		t.Errorf("Get(%x) = %s", b, short(p))
	}
	return true
}

func TestWhatIsGotIsPutAsItStood(t *testing.T) {
	for _, w := range patterns() {
		if !putAsItStood(t, w.bytes) {
			t.Errorf("nothing is got from %x", w.bytes)
		}
	}
	got := 0
	for seed := range uint64(20000) {
		if putAsItStood(t, likelyBytes(seed)) {
			got++
		}
	}
	if got < 1000 {
		t.Errorf("only %d of the rows are patterns", got)
	}
}

// R3, R5

// What is got stays, as the bytes are written over, which the getting left as they were.
func TestWhatIsGotSharesNothingWithTheBytes(t *testing.T) {
	for _, w := range patterns() {
		room := bytes.Repeat([]byte{0xaa}, len(w.bytes)+40)
		b := room[:copy(room, w.bytes)]
		got, errno := code.Get(b)
		if !bytes.Equal(b, w.bytes) || !bytes.Equal(room[len(b):], bytes.Repeat([]byte{0xaa}, 40)) || errno != api.OK {
			t.Errorf("getting changed %x; %v", w.bytes, errno)
		}
		for i := range b {
			b[i] = 'z'
		}
		if !identical(got, w.p) {
			t.Errorf("%s became %s, as the bytes were written over", short(w.p), short(got))
		}
	}
}

func TestWhatIsRefusedStays(t *testing.T) {
	for seed := range uint64(5000) {
		b := likelyBytes(seed)
		was := slices.Clone(b)
		p, errno := code.Get(b)
		if !bytes.Equal(b, was) {
			t.Errorf("getting changed %x to %x", was, b)
		}
		if q, f := code.Get(b); !identical(p, q) || errno != f {
			t.Errorf("Get(%x) answers otherwise the second time", b)
		}
	}
}

// writeOver writes over all lists of a pattern.
func writeOver(p api.Pattern) {
	for i, n := range p.Nodes {
		for _, tests := range [][]api.Test{n.Pred.Tests, n.Guard.Tests} {
			for k := range tests[:cap(tests)] {
				tests[:cap(tests)][k] = test(9, api.Eq, text("other"))
			}
		}
		p.Nodes[i] = api.Node{Kind: 9, Size: 9}
	}
}

// Two that are got from the same bytes have lists of their own.
func TestWhatIsGotTwiceSharesNothing(t *testing.T) {
	for _, w := range patterns() {
		one, _ := code.Get(w.bytes)
		two, _ := code.Get(w.bytes)
		writeOver(one)
		if !identical(two, w.p) {
			t.Errorf("%s became %s", short(w.p), short(two))
		}
	}
}

// No two lists of tests of one pattern are in the same memory.
func TestListsOfOnePatternShareNothing(t *testing.T) {
	for _, w := range patterns() {
		got, _ := code.Get(w.bytes)
		for at := range got.Nodes {
			p, _ := code.Get(w.bytes)
			writeOver(api.Pattern{Nodes: p.Nodes[at : at+1]})
			p.Nodes[at] = got.Nodes[at]
			if !identical(p, got) {
				t.Errorf("writing over the node %d of %s changes it to %s", at, short(got), short(p))
			}
		}
	}
}

// R1: any bytes are answered as the chapter says, and come back as they stood.
func FuzzAnyBytes(f *testing.F) {
	for seed := range uint64(200) {
		f.Add(likelyBytes(seed))
	}
	for ahead := range aheads() {
		f.Add(joined([]byte{5}, []byte(ahead)))
	}
	f.Add([]byte{})
	f.Fuzz(func(t *testing.T, b []byte) {
		getAsSaid(t, b)
		putAsItStood(t, b)
	})
}
