package den_test

import (
	"math"
	"slices"
	"strings"
	"testing"

	"equerry/api"
	"equerry/den"
)

// P12.1: May

// wantMay wants an answer of May.
func wantMay(t *testing.T, l []api.Logged, want bool) {
	t.Helper()
	if got := den.May(l); got != want {
		t.Errorf("May of %s = %v", toldRow(l), got)
	}
}

func TestRowsThatMayBe(t *testing.T) {
	wantMay(t, nil, true)
	wantMay(t, []api.Logged{}, true)
	wantMay(t, make([]api.Logged, 3), true)
	eachRow([]uint8{0, 255}, 4, func(l []api.Logged) { wantMay(t, l, true) })
	for seed := range uint64(50) {
		wantMay(t, grownRow(seed, int(seed)), true)
	}
	wantMay(t, row(times(5000, 1)...), true)
	full := event(3, 255, slices.Repeat([]api.Value{text(strings.Repeat("a", 255))}, 8)...)
	wantMay(t, []api.Logged{full, full}, true)
}

// Whose events are, and their numbers, are nothing that a row is asked for.
func TestPublishersOfARow(t *testing.T) {
	l := row(1, 2, 3, 4)
	for i, seq := range []uint64{math.MaxUint64, 0, 0, 1 << 41} {
		l[i].Pub, l[i].Seq = []uint32{math.MaxUint32, 0, 1, 0}[i], seq
	}
	wantMay(t, l, true)
	wantMatches(t, of(seq(one(1), one(4))), l, m(0, 3))
}

func TestTimesOfARow(t *testing.T) {
	for _, c := range []struct {
		times []uint64
		want  bool
	}{
		{[]uint64{0}, true},
		{[]uint64{0, 0}, true},
		{[]uint64{7, 7, 7, 7}, true},
		{[]uint64{0, 1, 1, 9, 9, 1000}, true},
		{[]uint64{1, 0}, false},
		{[]uint64{0, 1, 0}, false},
		{[]uint64{5, 6, 7, 6}, false},
		{[]uint64{6, 5, 7, 8}, false},
		{[]uint64{5, 7, 6, 8}, false},
		{[]uint64{1 << 32, 1}, false},
		{[]uint64{1, 1 << 32, 1<<32 + 1}, true},
		{[]uint64{mostTime - 1}, true},
		{[]uint64{mostTime}, true},
		{[]uint64{0, mostTime, mostTime}, true},
		{[]uint64{mostTime, mostTime - 1}, false},
		{[]uint64{mostTime, 0}, false},
		{[]uint64{mostTime + 1}, false},
		{[]uint64{mostTime + 1, 5}, false},
		{[]uint64{0, mostTime + 1}, false},
		{[]uint64{0, mostTime, mostTime + 1}, false},
		{[]uint64{2 * mostTime}, false},
		{[]uint64{1 << 63}, false},
		{[]uint64{0, 1 << 63}, false},
		{[]uint64{math.MaxUint64}, false},
		{[]uint64{0, math.MaxUint64}, false},
	} {
		l := at(1, c.times...)
		wantMay(t, l, c.want)
		want := api.ErrArg
		if c.want {
			want = api.OK
		}
		if got, errno := den.Matches(of(one(2)), l); got != nil || errno != want {
			t.Errorf("Matches in %s = %v, %v", toldRow(l), got, errno)
		}
	}
}

// A time that falls, or is too great, at any place of a longer row.
func TestTimesAtEachPlace(t *testing.T) {
	for n := 1; n <= 12; n++ {
		for place := range n {
			l := at(1, slices.Repeat([]uint64{100}, n)...)
			wantMay(t, l, true)
			l[place].At = 99
			wantMay(t, l, place == 0)
			l[place].At = 101
			wantMay(t, l, place == n-1)
			l[place].At = mostTime
			wantMay(t, l, place == n-1)
			l[place].At = mostTime + 1
			wantMay(t, l, false)
		}
	}
}

// wrongEvents are events that may not be.
func wrongEvents() []api.Event {
	return []api.Event{
		{Fields: make([]api.Value, 9)}, {Topic: 1, Fields: make([]api.Value, 300)},
		{Fields: []api.Value{{Kind: 4}}}, {Topic: 1, Fields: []api.Value{{}, {Kind: 255}}},
		{Topic: 1, Fields: []api.Value{{Int: 1}}}, {Topic: 1, Fields: []api.Value{whole(1), {Kind: api.Text, Int: 1}}},
		{Topic: 1, Fields: []api.Value{{Kind: api.Whole, Real: math.Copysign(0, -1)}}},
		{Topic: 1, Fields: []api.Value{text(strings.Repeat("a", 256))}},
	}
}

func TestEventsThatMayNotBe(t *testing.T) {
	for _, wrong := range wrongEvents() {
		wantMay(t, []api.Logged{{Event: wrong}}, false)
		for n := 1; n <= 6; n++ {
			for place := range n {
				l := row(times(n, 1)...)
				l[place].Event = wrong
				wantMay(t, l, false)
				wantRefused(t, of(each()), l, api.ErrArg)
			}
		}
	}
}

// P12.1: errors

// wantRefused wants an error, no matches, and that nothing happens.
func wantRefused(t *testing.T, p api.Pattern, l []api.Logged, want api.Errno) {
	t.Helper()
	if got, errno := den.Matches(p, l); got != nil || errno != want {
		t.Errorf("Matches of %s in %s = %v, %v, want %v", told(p), toldRow(l), got, errno, want)
	}
	for i := -1; i <= len(l); i++ {
		for j := -1; j <= len(l); j++ {
			if den.Happens(p, l, i, j) {
				t.Errorf("Happens of %s in %s, %d, %d", told(p), toldRow(l), i, j)
			}
		}
	}
}

// wrongRows are rows that may not be, in which a One of any topic would happen.
func wrongRows() [][]api.Logged {
	all := [][]api.Logged{at(1, 1, 0), at(1, 0, 5, 4), at(1, mostTime+1), at(1, 0, math.MaxUint64)}
	for _, wrong := range wrongEvents() {
		l := row(1, 1, 1)
		l[2].Event = wrong
		all = append(all, l)
	}
	return all
}

// refusal is a pattern that may not be, and May's error of it.
type refusal struct {
	p    api.Pattern
	want api.Errno
}

// refusals are some for each of May's errors, and for two at once.
func refusals() []refusal {
	deep := one(1)
	for range 9 {
		deep = rep(1, 1, deep)
	}
	wrong := api.Pred{Any: true, Topic: 1}
	return []refusal{
		{of(seq(slices.Repeat([]nodes{each()}, 32)...)), api.ErrMany},
		{of(make(nodes, 1000)), api.ErrMany},
		{api.Pattern{}, api.ErrForm},
		{of(nil), api.ErrForm},
		{of(nodes{{}}), api.ErrForm},
		{of(seq(each())), api.ErrForm},
		{of(alt()), api.ErrForm},
		{of(rep(0, 1, each())), api.ErrForm},
		{of(rep(2, 1, each())), api.ErrForm},
		{of(rep(1, 9, each())), api.ErrForm},
		{of(slices.Concat(each(), each())), api.ErrForm},
		{of(guarded(asked(9), each())), api.ErrForm},
		{of(nodes{{Kind: api.One, Pred: ofAny(), Size: 1}}), api.ErrForm},
		{of(nodes{{Kind: api.Seq, Size: 2}, {Kind: api.One, Pred: ofAny()}}), api.ErrForm},
		{of(nodes{{Kind: api.Seq, Size: math.MaxInt}, {Kind: api.One, Pred: ofAny()}, {Kind: api.One, Size: -1}}), api.ErrForm},
		{of(asks(wrong)), api.ErrArg},
		{of(guarded(wrong, seq(each(), each()))), api.ErrArg},
		{of(alt(each(), asks(wrong))), api.ErrArg},
		{of(deep), api.ErrDeep},
		{within(0, each()), api.ErrRange},
		{within(mostWindow+1, each()), api.ErrRange},
		{within(math.MaxUint64, each()), api.ErrRange},
		{within(0, seq(each(), each())), api.ErrRange},
		{of(rep(1, 5, rep(1, 8, each()))), api.ErrLong},
		{within(0, deep), api.ErrDeep},
		{within(0, rep(8, 8, rep(8, 8, each()))), api.ErrRange},
		{within(0, asks(wrong)), api.ErrArg},
	}
}

func TestPatternsThatMayNotBe(t *testing.T) {
	for _, c := range refusals() {
		wantRefused(t, c.p, nil, c.want)
		wantRefused(t, c.p, row(1, 1, 2), c.want)
		for _, l := range wrongRows() {
			wantRefused(t, c.p, l, c.want)
		}
	}
}

func TestRowsThatMayNotBe(t *testing.T) {
	for _, l := range wrongRows() {
		for _, p := range []nodes{each(), one(1), seq(each(), each()), alt(one(1), one(1)), rep(1, 3, each()), guarded(asked(9), rep(1, 3, each()))} {
			wantRefused(t, of(p), l, api.ErrArg)
			wantRefused(t, within(1, p), l, api.ErrArg)
			wantRefused(t, within(0, p), l, api.ErrRange)
		}
	}
}

// P12.1: Matches, Happens

// wantMatches wants the matches of a pattern in a row, and that it happens just there.
func wantMatches(t *testing.T, p api.Pattern, l []api.Logged, want ...api.Match) {
	t.Helper()
	got, errno := den.Matches(p, l)
	if errno != api.OK || !slices.Equal(got, want) {
		t.Errorf("Matches of %s in %s = %v, %v, want %v", told(p), toldRow(l), got, errno, want)
	}
	wantHappens(t, p, l, want)
}

// wantHappens wants a pattern to happen just where its matches say, asked of places in the row and beside it.
func wantHappens(t *testing.T, p api.Pattern, l []api.Logged, matches []api.Match) {
	t.Helper()
	for i := -2; i <= len(l)+1; i++ {
		for j := -2; j <= len(l)+1; j++ {
			want := i >= 0 && j >= 0 && slices.Contains(matches, m(uint64(i), uint64(j)))
			if den.Happens(p, l, i, j) != want {
				t.Errorf("Happens of %s in %s, %d, %d = %v", told(p), toldRow(l), i, j, !want)
			}
		}
	}
}

func TestKnownExamples(t *testing.T) {
	pair := seq(one(1), one(2))
	wantMatches(t, within(5, one(3)), at(3, 9), m(0, 0))
	wantMatches(t, within(10, pair), row(1, 1, 2), m(0, 2), m(1, 2))
	wantMatches(t, within(10, guarded(asked(3), pair)), row(1, 3, 1, 2), m(2, 3))
	wantMatches(t, within(9, rep(2, 3, one(1))), row(1, 1, 2, 1, 1), m(0, 1), m(0, 3), m(1, 3), m(0, 4), m(1, 4), m(3, 4))
}

func TestRowsWithoutEvents(t *testing.T) {
	for _, p := range []nodes{each(), seq(each(), each()), alt(each(), each()), rep(1, 8, each()), guarded(ofAny(), rep(2, 2, each()))} {
		wantMatches(t, of(p), nil)
		wantMatches(t, of(p), []api.Logged{})
		wantMatches(t, within(1, p), make([]api.Logged, 9)[:0])
	}
}

func TestOneAtEachPlace(t *testing.T) {
	for n := 1; n <= 8; n++ {
		var all []api.Match
		for place := range n {
			topics := times(n, 2)
			topics[place] = 1
			match := m(uint64(place), uint64(place))
			wantMatches(t, within(1, one(1)), row(topics...), match)
			wantMatches(t, within(1, asks(ofAny(has(0)))), row(topics...))
			all = append(all, match)
		}
		wantMatches(t, within(1, each()), row(times(n, 2)...), all...)
		wantMatches(t, within(1, one(2)), row(times(n, 2)...), all...)
		wantMatches(t, within(1, one(1)), row(times(n, 2)...))
	}
}

func TestOneAsksFields(t *testing.T) {
	l := []api.Logged{event(0, 1), event(0, 1, whole(4)), event(0, 1, whole(5)), event(3, 2, whole(5)), event(4, 1, text("5")), event(9, 1, whole(6))}
	wantMatches(t, of(asks(asked(1, above(0, 4)))), l, m(2, 2), m(5, 5))
	wantMatches(t, of(asks(ofAny(above(0, 4)))), l, m(2, 2), m(3, 3), m(5, 5))
	wantMatches(t, of(asks(asked(1, has(0)))), l, m(1, 1), m(2, 2), m(4, 4), m(5, 5))
}

func TestSeqOfTwo(t *testing.T) {
	p := of(seq(one(1), one(2)))
	wantMatches(t, p, row(1))
	wantMatches(t, p, row(2))
	wantMatches(t, p, row(1, 2), m(0, 1))
	wantMatches(t, p, row(2, 1))
	wantMatches(t, p, row(1, 1))
	wantMatches(t, p, row(1, 3, 2), m(0, 2))
	wantMatches(t, p, row(1, 3, 3, 3, 3, 2), m(0, 5))
	wantMatches(t, p, row(3, 1, 2, 3), m(1, 2))
	wantMatches(t, p, row(1, 2, 2, 1, 2), m(0, 1), m(0, 2), m(0, 4), m(3, 4))
	wantMatches(t, of(seq(one(1), one(1))), row(1))
	wantMatches(t, of(seq(one(1), one(1))), row(1, 1, 1), m(0, 1), m(0, 2), m(1, 2))
	wantMatches(t, of(seq(one(1), each())), row(1, 1, 2), m(0, 1), m(0, 2), m(1, 2))
	wantMatches(t, of(seq(each(), one(1))), row(2, 1, 1), m(0, 1), m(0, 2), m(1, 2))
}

func TestSeqOfMore(t *testing.T) {
	three := of(seq(ones(1, 2, 3)...))
	wantMatches(t, three, row(1, 2, 3), m(0, 2))
	wantMatches(t, three, row(1, 3, 2))
	wantMatches(t, three, row(2, 3, 1))
	wantMatches(t, three, row(1, 2))
	wantMatches(t, three, row(2, 3))
	wantMatches(t, three, row(1, 9, 9, 2, 9, 3, 9, 3), m(0, 5), m(0, 7))
	wantMatches(t, three, row(1, 2, 1, 3, 2, 3), m(0, 3), m(0, 5), m(2, 5))
	wantMatches(t, of(seq(ones(1, 1, 1)...)), row(1, 1, 1, 1), m(0, 2), m(0, 3), m(1, 3))
	wantMatches(t, of(seq(ones(1, 2, 1, 2)...)), row(1, 2, 1, 2, 2), m(0, 3), m(0, 4))
	wantMatches(t, of(seq(ones(1, 2, 3, 4, 5)...)), row(1, 2, 3, 4, 5), m(0, 4))
	wantMatches(t, of(seq(ones(1, 2, 3, 4, 5)...)), row(1, 2, 3, 5, 4))
}

// As many parts as there may be, in rows that are as long, and one shorter, and one longer.
func TestSeqOfMostParts(t *testing.T) {
	all := of(seq(slices.Repeat([]nodes{each()}, 31)...))
	wantMatches(t, all, row(times(30, 1)...))
	wantMatches(t, all, row(times(31, 1)...), m(0, 30))
	wantMatches(t, all, row(times(32, 1)...), m(0, 30), m(0, 31), m(1, 31))
	wantMatches(t, within(30, all.Nodes), row(times(32, 1)...), m(0, 30), m(1, 31))
	wantMatches(t, within(29, all.Nodes), row(times(32, 1)...))
}

// Parts that happen from a place to itself, each at another one than the next.
func TestPartsOfOneEvent(t *testing.T) {
	either := alt(one(1), one(2))
	once := rep(1, 1, one(2))
	wantMatches(t, of(seq(either, once)), row(1, 2), m(0, 1))
	wantMatches(t, of(seq(either, once)), row(2))
	wantMatches(t, of(seq(either, once)), row(2, 2), m(0, 1))
	wantMatches(t, of(seq(once, either)), row(1, 2, 1), m(1, 2))
	wantMatches(t, of(seq(rep(1, 2, one(1)), one(1))), row(1, 1), m(0, 1))
	wantMatches(t, of(rep(2, 2, either)), row(2, 3, 1), m(0, 2))
	wantMatches(t, of(alt(once, rep(1, 3, either))), row(2), m(0, 0))
}

func TestPartsThatHavePartsThemselves(t *testing.T) {
	pair := seq(one(1), one(2))
	wantMatches(t, of(seq(pair, one(3))), row(1, 2, 3), m(0, 2))
	wantMatches(t, of(seq(pair, one(3))), row(1, 3, 2))
	wantMatches(t, of(seq(one(3), pair)), row(1, 3, 1, 2, 2), m(1, 3), m(1, 4))
	wantMatches(t, of(seq(pair, seq(one(2), one(3)))), row(1, 2, 3))
	wantMatches(t, of(seq(pair, seq(one(2), one(3)))), row(1, 2, 2, 3), m(0, 3))
	wantMatches(t, of(seq(pair, seq(one(3), one(4)))), row(1, 3, 2, 4))
	wantMatches(t, of(seq(pair, pair)), row(1, 1, 2, 2))
	wantMatches(t, of(seq(pair, pair)), row(1, 2, 1, 2), m(0, 3))
	wantMatches(t, of(seq(alt(pair, one(3)), one(4))), row(1, 2, 4, 3, 4), m(0, 2), m(0, 4), m(3, 4))
	wantMatches(t, of(seq(one(4), alt(pair, one(3)))), row(4, 1, 3, 2), m(0, 2), m(0, 3))
	wantMatches(t, of(seq(rep(2, 3, one(1)), one(2))), row(1, 2, 1, 2), m(0, 3))
	wantMatches(t, of(seq(one(2), rep(2, 3, one(1)))), row(2, 1, 1, 2, 1), m(0, 2), m(0, 4))
	wantMatches(t, of(rep(2, 2, pair)), row(1, 2, 1, 2, 1, 2), m(0, 3), m(0, 5), m(2, 5))
	wantMatches(t, of(rep(2, 2, pair)), row(1, 1, 2, 2))
	wantMatches(t, of(rep(2, 2, alt(pair, one(3)))), row(3, 1, 2, 3), m(0, 2), m(0, 3), m(1, 3))
	wantMatches(t, of(rep(2, 2, rep(2, 2, one(1)))), row(1, 1, 1, 1, 1), m(0, 3), m(0, 4), m(1, 4))
	wantMatches(t, of(alt(pair, rep(2, 2, one(2)), alt(one(3), one(4)))), row(1, 2, 3, 2, 4), m(0, 1), m(2, 2), m(0, 3), m(1, 3), m(4, 4))
}

// What is deepest, and longest, of all that may be.
func TestDeepestParts(t *testing.T) {
	l := one(1)
	for range 8 {
		l = rep(1, 1, l)
	}
	wantMatches(t, of(l), row(1, 2, 1), m(0, 0), m(2, 2))
	wantMatches(t, of(rep(4, 4, rep(8, 8, each()))), row(times(31, 1)...))
	wantMatches(t, of(rep(4, 4, rep(8, 8, each()))), row(times(33, 1)...), m(0, 31), m(0, 32), m(1, 32))
	nested := seq(one(1), one(2))
	for topic := uint8(3); topic <= 9; topic++ {
		nested = seq(nested, one(topic))
	}
	wantMatches(t, of(nested), row(1, 2, 3, 4, 5, 6, 7, 8, 9), m(0, 8))
	wantMatches(t, of(nested), row(1, 2, 3, 4, 5, 6, 7, 9, 8))
}

func TestAltOfTheSamePlacesIsOneMatch(t *testing.T) {
	wantMatches(t, of(alt(one(1), one(1))), row(1, 2, 1), m(0, 0), m(2, 2))
	wantMatches(t, of(alt(one(1), each(), one(2))), row(1, 2), m(0, 0), m(1, 1))
	pair := seq(one(1), one(2))
	wantMatches(t, of(alt(pair, pair)), row(1, 2, 2), m(0, 1), m(0, 2))
	wantMatches(t, of(alt(pair, seq(one(1), one(3), one(2)), seq(each(), one(2)))), row(1, 3, 2), m(0, 2), m(1, 2))
	wantMatches(t, of(seq(alt(one(1), each()), one(2))), row(1, 2), m(0, 1))
	wantMatches(t, of(alt(pair, rep(1, 2, each()), one(2))), row(1, 2), m(0, 0), m(0, 1), m(1, 1))
}

// Ways to the same places are many, the match is one.
func TestManyWaysAreOneMatch(t *testing.T) {
	wantMatches(t, of(seq(one(1), one(2), one(3))), row(1, 2, 2, 2, 3), m(0, 4))
	wantMatches(t, of(seq(rep(1, 3, one(1)), rep(1, 3, one(1)))), row(1, 1, 1), m(0, 1), m(0, 2), m(1, 2))
	wantMatches(t, of(rep(1, 4, rep(1, 4, one(1)))), row(1, 1), m(0, 0), m(0, 1), m(1, 1))
}

func TestAltOfNoneAndOfOne(t *testing.T) {
	p := of(alt(one(1), seq(one(2), one(3)), rep(2, 2, one(4))))
	wantMatches(t, p, row(5, 3, 2, 4))
	wantMatches(t, p, row(1), m(0, 0))
	wantMatches(t, p, row(2, 3), m(0, 1))
	wantMatches(t, p, row(4, 4), m(0, 1))
	wantMatches(t, of(alt(ones(1, 2, 3, 4, 5, 6, 7)...)), row(9, 7, 1, 8, 4), m(1, 1), m(2, 2), m(4, 4))
}

// One by one, without anything between: a Rep whose Guard is any event.
func TestTimesOfARep(t *testing.T) {
	for lo := uint8(1); lo <= 8; lo++ {
		for hi := lo; hi <= 8; hi++ {
			for n := range 12 {
				var adjacent, all []api.Match
				for j := range n {
					for i := range j + 1 {
						have := j - i + 1
						if int(lo) <= have && have <= int(hi) {
							adjacent = append(adjacent, m(uint64(i), uint64(j)))
						}
						if int(lo) <= have && (hi > 1 || i == j) {
							all = append(all, m(uint64(i), uint64(j)))
						}
					}
				}
				wantMatches(t, of(guarded(ofAny(), rep(lo, hi, one(1)))), row(times(n, 1)...), adjacent...)
				wantMatches(t, of(rep(lo, hi, one(1))), row(times(n, 1)...), all...)
			}
		}
	}
}

func TestKnownReps(t *testing.T) {
	wantMatches(t, of(rep(3, 3, one(1))), row(1, 1, 2, 1), m(0, 3))
	wantMatches(t, of(rep(3, 4, one(1))), row(1, 2, 1))
	wantMatches(t, of(rep(1, 1, one(1))), row(1, 1), m(0, 0), m(1, 1))
	wantMatches(t, of(rep(1, 2, one(1))), row(1, 2, 1), m(0, 0), m(0, 2), m(2, 2))
	wantMatches(t, of(rep(2, 2, one(1))), row(1))
	wantMatches(t, of(guarded(asked(1), rep(2, 3, one(1)))), row(1, 2, 1, 2, 1, 2, 1), m(0, 2), m(0, 4), m(2, 4), m(2, 6), m(4, 6))
	wantMatches(t, of(rep(1, 8, seq(one(1), one(2)))), row(1, 2, 1, 2), m(0, 1), m(0, 3), m(2, 3))
	wantMatches(t, of(guarded(asked(1), rep(1, 1, one(1)))), row(1, 1), m(0, 0), m(1, 1))
}

func TestGuardOfASeq(t *testing.T) {
	pair := seq(one(1), one(2))
	p := of(guarded(asked(9), pair))
	wantMatches(t, p, row(1, 2), m(0, 1))
	wantMatches(t, p, row(1, 9, 2))
	wantMatches(t, p, row(1, 8, 9, 8, 2))
	wantMatches(t, p, row(1, 9, 8, 2))
	wantMatches(t, p, row(1, 8, 9, 2))
	wantMatches(t, p, row(1, 8, 8, 2), m(0, 3))
	wantMatches(t, p, row(9, 1, 2, 9), m(1, 2))
	wantMatches(t, p, row(9, 9, 1, 8, 2, 9), m(2, 4))
	wantMatches(t, p, row(1, 9, 1, 2, 9, 2), m(2, 3))
	wantMatches(t, p, row(1, 2, 9, 2), m(0, 1))
	wantMatches(t, p, row(1, 1, 9, 2, 1, 2), m(4, 5))
}

// A Guard that holds of the events of the parts themselves: of these it isn't asked.
func TestGuardOfThePartsOwnEvents(t *testing.T) {
	pair := seq(one(1), one(2))
	wantMatches(t, of(guarded(asked(1), pair)), row(1, 2), m(0, 1))
	wantMatches(t, of(guarded(asked(1), pair)), row(1, 1, 2), m(1, 2))
	wantMatches(t, of(guarded(asked(2), pair)), row(1, 2, 2), m(0, 1))
	wantMatches(t, of(guarded(asked(2), pair)), row(2, 1, 2), m(1, 2))
	wantMatches(t, of(guarded(ofAny(), pair)), row(1, 2, 1, 3, 2, 1, 2), m(0, 1), m(5, 6))
	wantMatches(t, of(guarded(ofAny(), seq(each(), each()))), row(1, 2, 3), m(0, 1), m(1, 2))
	wantMatches(t, of(guarded(ofAny(), seq(each(), each(), each()))), row(1, 2, 3, 4), m(0, 2), m(1, 3))
	wantMatches(t, of(guarded(asked(1), seq(one(1), one(1)))), row(1, 2, 1, 1), m(0, 2), m(2, 3))
	wantMatches(t, of(guarded(asked(9), seq(one(9), one(9)))), row(9, 9, 8, 9), m(0, 1), m(1, 3))
}

// A Guard is of the events between two parts, not of those within one; the part's own Guard is of these.
func TestGuardAndWhatIsWithinAPart(t *testing.T) {
	pair := seq(one(1), one(2))
	wantMatches(t, of(guarded(asked(9), seq(pair, one(3)))), row(1, 9, 2, 3), m(0, 3))
	wantMatches(t, of(guarded(asked(9), seq(pair, one(3)))), row(1, 2, 9, 3))
	wantMatches(t, of(guarded(asked(9), seq(one(3), pair))), row(3, 1, 9, 2), m(0, 3))
	wantMatches(t, of(guarded(asked(9), seq(one(3), pair))), row(3, 9, 1, 2))
	wantMatches(t, of(seq(guarded(asked(9), pair), one(3))), row(1, 9, 2, 3))
	wantMatches(t, of(seq(guarded(asked(9), pair), one(3))), row(1, 2, 9, 3), m(0, 3))
	wantMatches(t, of(seq(one(3), guarded(asked(9), pair))), row(3, 9, 1, 2), m(0, 3))
	wantMatches(t, of(guarded(asked(8), seq(guarded(asked(9), pair), one(3)))), row(1, 8, 2, 9, 3), m(0, 4))
	wantMatches(t, of(guarded(asked(8), seq(guarded(asked(9), pair), one(3)))), row(1, 9, 2, 3))
	wantMatches(t, of(guarded(asked(8), seq(guarded(asked(9), pair), one(3)))), row(1, 2, 8, 3))
	wantMatches(t, of(guarded(asked(9), seq(rep(2, 2, one(1)), one(2)))), row(1, 9, 1, 2), m(0, 3))
	wantMatches(t, of(guarded(asked(9), seq(rep(1, 2, one(1)), one(2)))), row(1, 1, 9, 2))
	wantMatches(t, of(guarded(asked(9), seq(alt(pair, one(1)), one(3)))), row(1, 9, 2, 3), m(0, 3))
}

// A Guard that holds of the first, or the last event of a part.
func TestGuardOfThePartsEdges(t *testing.T) {
	wantMatches(t, of(guarded(asked(9), seq(one(1), seq(one(9), one(2))))), row(1, 9, 2), m(0, 2))
	wantMatches(t, of(guarded(asked(9), seq(one(1), seq(one(9), one(2))))), row(1, 9, 9, 2), m(0, 3))
	wantMatches(t, of(guarded(asked(9), seq(seq(one(1), one(9)), one(2)))), row(1, 9, 2), m(0, 2))
	wantMatches(t, of(guarded(asked(9), seq(seq(one(1), one(9)), one(2)))), row(1, 9, 9, 2), m(0, 3))
	wantMatches(t, of(guarded(asked(9), seq(seq(one(1), one(9)), one(2)))), row(1, 9, 8, 9, 2, 2), m(0, 4), m(0, 5))
	wantMatches(t, of(guarded(asked(9), seq(one(9), one(1), one(9)))), row(9, 1, 9), m(0, 2))
	wantMatches(t, of(guarded(asked(9), seq(one(9), one(1), one(9)))), row(9, 9, 1, 9, 9), m(1, 3))
}

// A Guard is asked between each two parts that are one behind the other.
func TestGuardBetweenEachTwoParts(t *testing.T) {
	p := of(guarded(asked(9), seq(ones(1, 2, 3, 4)...)))
	wantMatches(t, p, row(1, 2, 3, 4), m(0, 3))
	for place := range 5 {
		topics := slices.Insert([]uint8{1, 2, 3, 4}, place, 9)
		switch place {
		case 0:
			wantMatches(t, p, row(topics...), m(1, 4))
		case 4:
			wantMatches(t, p, row(topics...), m(0, 3))
		default:
			wantMatches(t, p, row(topics...))
		}
	}
	wantMatches(t, of(guarded(asked(9), seq(ones(1, 2, 3)...))), row(1, 9, 1, 2, 9, 2, 3))
	wantMatches(t, of(guarded(asked(9), seq(ones(1, 2, 3)...))), row(1, 9, 1, 2, 2, 3), m(2, 5))
	wantMatches(t, of(guarded(asked(9), seq(ones(1, 2, 3)...))), row(1, 2, 9, 2, 3))
}

func TestGuardOfARep(t *testing.T) {
	pair := seq(one(1), one(2))
	wantMatches(t, of(guarded(asked(9), rep(2, 2, one(1)))), row(1, 1), m(0, 1))
	wantMatches(t, of(guarded(asked(9), rep(2, 2, one(1)))), row(9, 1, 8, 1, 9), m(1, 3))
	wantMatches(t, of(guarded(asked(9), rep(2, 2, one(1)))), row(1, 9, 1))
	wantMatches(t, of(guarded(asked(9), rep(1, 2, one(1)))), row(1, 9, 1), m(0, 0), m(2, 2))
	wantMatches(t, of(guarded(asked(9), rep(3, 3, one(1)))), row(1, 1, 9, 1))
	wantMatches(t, of(guarded(asked(9), rep(3, 3, one(1)))), row(1, 9, 1, 1, 8, 1), m(2, 5))
	wantMatches(t, of(guarded(asked(9), rep(2, 2, pair))), row(1, 9, 2, 1, 9, 2), m(0, 5))
	wantMatches(t, of(guarded(asked(9), rep(2, 2, pair))), row(1, 2, 9, 1, 2))
	wantMatches(t, of(rep(2, 2, guarded(asked(9), pair))), row(1, 2, 9, 1, 2), m(0, 4))
	wantMatches(t, of(rep(2, 2, guarded(asked(9), pair))), row(1, 2, 1, 9, 2))
	wantMatches(t, of(guarded(asked(1), rep(2, 3, one(1)))), row(1, 1, 1, 1), m(0, 1), m(0, 2), m(1, 2), m(1, 3), m(2, 3))
}

func TestGuardAsksFields(t *testing.T) {
	p := of(guarded(asked(3, above(0, 5)), seq(one(1), one(2))))
	between := func(e api.Logged) []api.Logged { return []api.Logged{event(0, 1), e, event(2, 2)} }
	wantMatches(t, p, between(event(1, 3, whole(6))))
	wantMatches(t, p, between(event(1, 3, whole(5))), m(0, 2))
	wantMatches(t, p, between(event(1, 3)), m(0, 2))
	wantMatches(t, p, between(event(1, 4, whole(6))), m(0, 2))
	wantMatches(t, p, between(event(1, 3, text("6"))), m(0, 2))
	wantMatches(t, p, between(event(1, 3, whole(5), whole(6))), m(0, 2))
	first := of(guarded(ofAny(has(0)), rep(2, 3, one(1))))
	wantMatches(t, first, []api.Logged{event(0, 1, whole(1)), event(0, 2), event(0, 1, whole(1)), event(0, 1)}, m(0, 2), m(0, 3), m(2, 3))
	wantMatches(t, first, []api.Logged{event(0, 1), event(0, 2, whole(0)), event(0, 1)})
	same := of(guarded(asked(1, above(0, 5)), seq(one(1), one(2))))
	wantMatches(t, same, []api.Logged{event(0, 1, whole(6)), event(0, 1, whole(5)), event(0, 2)}, m(0, 2), m(1, 2))
	wantMatches(t, same, []api.Logged{event(0, 1, whole(5)), event(0, 1, whole(6)), event(0, 2)}, m(1, 2))
}

// A question that has nothing is one of the topic 0, also where it guards.
func TestTopicNought(t *testing.T) {
	wantMatches(t, of(asks(api.Pred{})), row(1, 0), m(1, 1))
	wantMatches(t, of(guarded(api.Pred{}, seq(one(1), one(2)))), row(1, 0, 2))
	wantMatches(t, of(guarded(api.Pred{}, seq(one(1), one(2)))), row(1, 3, 2), m(0, 2))
	wantMatches(t, of(seq(one(1), one(2))), row(1, 0, 2), m(0, 2))
}

func TestWindows(t *testing.T) {
	pair := seq(each(), each())
	for _, begin := range []uint64{0, 1, 255, 1 << 32, mostTime - mostWindow - 1} {
		for _, window := range []uint64{1, 2, 3, 9, 255, 256, 1 << 16, mostWindow - 1, mostWindow} {
			wantMatches(t, within(window, pair), at(1, begin, begin+window-1), m(0, 1))
			wantMatches(t, within(window, pair), at(1, begin, begin+window), m(0, 1))
			wantMatches(t, within(window, pair), at(1, begin, begin+window+1))
			wantMatches(t, within(window, pair), at(1, begin, begin, begin+window, begin+window+1), m(0, 1), m(0, 2), m(1, 2), m(2, 3))
		}
	}
	wantMatches(t, within(1, pair), at(1, 0, mostTime))
	wantMatches(t, within(mostWindow, pair), at(1, 0, mostTime))
	wantMatches(t, within(1, pair), at(1, mostTime-1, mostTime), m(0, 1))
	wantMatches(t, within(1, each()), at(1, 5, mostTime), m(0, 0), m(1, 1))
	wantMatches(t, within(1, pair), at(1, mostTime, mostTime, mostTime), m(0, 1), m(0, 2), m(1, 2))
}

// The window is of the whole, however long its parts are.
func TestWindowOfTheWhole(t *testing.T) {
	three := seq(ones(1, 2, 3)...)
	nested := seq(seq(one(1), one(2)), one(3))
	behind := seq(one(1), seq(one(2), one(3)))
	for _, p := range []nodes{three, nested, behind, rep(1, 1, nested), alt(three, behind)} {
		l := row(1, 2, 3)
		l[0].At, l[1].At, l[2].At = 10, 14, 19
		wantMatches(t, within(8, p), l)
		wantMatches(t, within(9, p), l, m(0, 2))
		l[0].At = 14
		wantMatches(t, within(4, p), l)
		wantMatches(t, within(5, p), l, m(0, 2))
	}
	wantMatches(t, within(2, rep(1, 8, one(1))), row(1, 1, 1, 1), m(0, 0), m(0, 1), m(1, 1), m(0, 2), m(1, 2), m(2, 2), m(1, 3), m(2, 3), m(3, 3))
	wantMatches(t, within(2, seq(rep(1, 8, one(1)), one(2))), row(1, 1, 1, 2), m(1, 3), m(2, 3))
	wantMatches(t, within(3, rep(2, 2, seq(one(1), one(2)))), row(1, 2, 2, 1, 2, 1, 2), m(3, 6))
	wantMatches(t, within(4, rep(2, 2, seq(one(1), one(2)))), row(1, 2, 2, 1, 2, 1, 2), m(0, 4), m(3, 6))
}

func TestOrderOfMatches(t *testing.T) {
	wantMatches(t, of(seq(one(1), one(2))), row(1, 1, 1, 2, 2), m(0, 3), m(1, 3), m(2, 3), m(0, 4), m(1, 4), m(2, 4))
	long := alt(seq(one(1), one(5)), seq(one(2), one(4)), one(3))
	wantMatches(t, of(long), row(1, 2, 3, 4, 5), m(2, 2), m(1, 3), m(0, 4))
	wantMatches(t, of(alt(one(2), seq(one(1), one(2)))), row(1, 1, 2), m(0, 2), m(1, 2), m(2, 2))
	got, errno := den.Matches(of(seq(each(), each())), row(times(300, 1)...))
	if errno != api.OK || len(got) != 300*299/2 {
		t.Fatalf("%d matches, %v", len(got), errno)
	}
	n := 0
	for j := range uint64(300) {
		for i := range j {
			if got[n] != m(i, j) {
				t.Fatalf("match %d = %v, want %d to %d", n, got[n], i, j)
			}
			n++
		}
	}
}

func TestHappensOutsideOfTheRow(t *testing.T) {
	far := []int{math.MinInt, math.MinInt + 1, -1 << 32, -1<<32 + 1, -4, -3, -1, 3, 4, 255, 256, 1 << 31, 1 << 32, 1<<32 + 1, math.MaxInt - 1, math.MaxInt}
	for _, l := range [][]api.Logged{nil, row(1), row(1, 1, 1)} {
		for _, p := range []nodes{each(), seq(each(), each()), rep(1, 3, each())} {
			for _, i := range far {
				for k := range l {
					if den.Happens(of(p), l, i, k) || den.Happens(of(p), l, k, i) {
						t.Errorf("%s happens in %s, %d, %d", told(of(p)), toldRow(l), i, k)
					}
				}
				for _, j := range far {
					if den.Happens(of(p), l, i, j) {
						t.Errorf("%s happens in %s, %d, %d", told(of(p)), toldRow(l), i, j)
					}
				}
			}
		}
	}
}

func TestHappensTheOtherWayRound(t *testing.T) {
	l := at(1, 5, 5, 5)
	for _, p := range []nodes{each(), seq(each(), each()), rep(1, 3, each())} {
		for i := range l {
			for j := range i {
				if den.Happens(of(p), l, i, j) {
					t.Errorf("%s happens from %d to %d", told(of(p)), i, j)
				}
			}
		}
	}
}
