package auto_test

import (
	"fmt"
	"slices"
	"testing"

	"equerry/api"
	"equerry/auto"
	"equerry/den"
	"equerry/pred"
	"equerry/tree"
)

// walk is for the ways of an automaton's places through a row.
type walk struct {
	a    api.Auto
	row  []api.Logged
	asks [][]bool // of each place, of which events its question holds
	bars [][]bool // of each edge, of which events its Guard holds
}

// walkOf is a walk through a row that may be.
func walkOf(a api.Auto, l []api.Logged) walk {
	w := walk{a: a, row: l}
	holds := func(p api.Pred) []bool {
		all := make([]bool, len(l))
		for k := range l {
			all[k] = pred.Holds(p, l[k].Event)
		}
		return all
	}
	for _, p := range a.Preds {
		w.asks = append(w.asks, holds(p))
	}
	for _, e := range a.Edges {
		if !e.Guarded {
			w.bars = append(w.bars, make([]bool, len(l)))
			continue
		}
		w.bars = append(w.bars, holds(e.Guard))
	}
	return w
}

// from is to which events a way that begins with the event i leads: at each event the places that a way may have come to are those that an edge leads to, from a place at an event ahead, with no event between of which the edge's Guard holds.
func (w walk) from(i int) []int {
	at := make([]uint32, len(w.row))
	for place := range w.a.Preds {
		if w.a.First>>place&1 == 1 && w.asks[place][i] {
			at[i] |= 1 << place
		}
	}
	for k := i + 1; k < len(w.row); k++ {
		for n, e := range w.a.Edges {
			if w.asks[e.To][k] && w.waits(at, n, i, k) {
				at[k] |= 1 << e.To
			}
		}
	}
	var all []int
	for k, set := range at {
		if set&w.a.Last != 0 {
			all = append(all, k)
		}
	}
	return all
}

// waits tells whether a way that is at the From of the edge n, with some event from i on, may have gone on from there to k.
func (w walk) waits(at []uint32, n, i, k int) bool {
	for ahead := k - 1; ahead >= i; ahead-- {
		if at[ahead]>>w.a.Edges[n].From&1 == 1 {
			return true
		}
		if w.bars[n][ahead] {
			return false
		}
	}
	return false
}

// walked are from where to where there are ways of an automaton through a row, within a window.
func walked(a api.Auto, window uint64, l []api.Logged) []api.Match {
	w := walkOf(a, l)
	var all []api.Match
	for i := range l {
		for _, k := range w.from(i) {
			if l[k].At-l[i].At <= window {
				all = append(all, m(uint64(i), uint64(k)))
			}
		}
	}
	slices.SortFunc(all, func(a, b api.Match) int { return int(a.To<<32+a.From) - int(b.To<<32+b.From) })
	return all
}

// means wants a pattern to happen in a row just where its automaton's ways lead, and tells how often.
func means(t *testing.T, p api.Pattern, a api.Auto, l []api.Logged) int {
	t.Helper()
	want, errno := den.Matches(p, l)
	if errno != api.OK {
		t.Fatalf("Matches of %s in %s = %v", told(p), toldRow(l), errno)
	}
	if got := walked(a, p.Window, l); !slices.Equal(got, want) {
		t.Fatalf("%s happens in %s: %v; ways of %s: %v", told(p), toldRow(l), want, toldAuto(a), got)
	}
	return len(want)
}

// wantWays wants a pattern's matches, and the ways of its automaton, to be these.
func wantWays(t *testing.T, p api.Pattern, l []api.Logged, want ...api.Match) {
	t.Helper()
	a := compiled(t, p)
	if got := walked(a, p.Window, l); !slices.Equal(got, want) {
		t.Errorf("ways of %s in %s: %v, want %v", toldAuto(a), toldRow(l), got, want)
	}
	means(t, p, a, l)
}

// P14.2

func TestKnownWays(t *testing.T) {
	pair := seq(one(1), one(2))
	wantWays(t, within(5, one(3)), row(3, 1, 3), m(0, 0), m(2, 2))
	wantWays(t, within(10, pair), row(1, 1, 2), m(0, 2), m(1, 2))
	wantWays(t, within(10, not(3, pair)), row(1, 3, 1, 2), m(2, 3))
	wantWays(t, of(alt(one(1), pair)), row(1, 1, 2), m(0, 0), m(1, 1), m(0, 2), m(1, 2))
	wantWays(t, of(rep(2, 3, one(1))), row(1, 2, 1, 1, 1), m(0, 2), m(0, 3), m(2, 3), m(0, 4), m(2, 4), m(3, 4))
	wantWays(t, of(rep(1, 1, one(1))), row(1, 1), m(0, 0), m(1, 1))
	wantWays(t, of(rep(8, 8, each())), row(1, 1, 1, 1, 1, 1, 1))
	wantWays(t, of(rep(8, 8, each())), row(1, 1, 1, 1, 1, 1, 1, 1, 1), m(0, 7), m(0, 8), m(1, 8))
}

// A guard within a repetition's copies holds within each of them, the repetition's own one between them, and none anywhere else.
func TestGuardsWithinCopies(t *testing.T) {
	pair := seq(one(1), one(2))
	inner, outer := of(rep(2, 2, not(3, pair))), of(not(3, rep(2, 2, pair)))
	both := of(not(4, rep(2, 2, not(3, pair))))
	wantWays(t, inner, row(1, 2, 1, 2), m(0, 3))
	wantWays(t, inner, row(1, 3, 2, 1, 2))
	wantWays(t, inner, row(1, 2, 3, 1, 2), m(0, 4))
	wantWays(t, inner, row(1, 2, 1, 3, 2))
	wantWays(t, inner, row(3, 1, 2, 3, 1, 2, 3), m(1, 5))
	wantWays(t, outer, row(1, 2, 1, 2), m(0, 3))
	wantWays(t, outer, row(1, 3, 2, 1, 2), m(0, 4))
	wantWays(t, outer, row(1, 2, 3, 1, 2))
	wantWays(t, outer, row(1, 2, 1, 3, 2), m(0, 4))
	wantWays(t, outer, row(1, 2, 3, 2, 1, 2), m(0, 5))
	wantWays(t, both, row(1, 2, 3, 1, 2), m(0, 4))
	wantWays(t, both, row(1, 4, 2, 1, 4, 2), m(0, 5))
	wantWays(t, both, row(1, 3, 2, 1, 2))
	wantWays(t, both, row(1, 2, 4, 1, 2))
	twice := of(not(3, rep(1, 3, not(2, rep(2, 2, one(1))))))
	wantWays(t, twice, row(1, 1, 2, 1, 3, 1), m(0, 1), m(0, 5), m(3, 5))
	wantWays(t, twice, row(1, 1, 2, 1, 1), m(0, 1), m(0, 4), m(3, 4))
	wantWays(t, twice, row(1, 2, 1, 3, 1), m(2, 4))
	four := of(not(3, rep(2, 2, not(2, rep(2, 2, one(1))))))
	wantWays(t, four, row(1, 1, 2, 1, 1), m(0, 4))
	wantWays(t, four, row(1, 3, 1, 1, 3, 1), m(0, 5))
	wantWays(t, four, row(1, 1, 3, 1, 1))
	wantWays(t, four, row(1, 1, 1, 2, 1))
}

// The events at the places themselves aren't between: a Guard may hold of them.
func TestGuardsOfThePlacesThemselves(t *testing.T) {
	wantWays(t, of(not(1, rep(1, 3, one(1)))), row(1, 1, 1), m(0, 0), m(0, 1), m(1, 1), m(0, 2), m(1, 2), m(2, 2))
	wantWays(t, of(guarded(ofAny(), seq(one(1), one(2)))), row(1, 1, 2, 2), m(1, 2))
	wantWays(t, of(guarded(ofAny(), seq(alt(one(1), one(3)), one(2)))), row(1, 3, 2, 1, 2), m(1, 2), m(3, 4))
}

// Guards at the front, in the middle and at the end of rows: what an event between says is asked of each of them.
func TestGuardsAtEachPlaceBetween(t *testing.T) {
	p, a := of(not(3, seq(one(1), one(2)))), compiled(t, of(not(3, seq(one(1), one(2)))))
	for n := 2; n <= 10; n++ {
		for place := range n {
			topics := slices.Repeat(topicsOf(4), n)
			topics[0], topics[n-1] = 1, 2
			if place > 0 && place < n-1 {
				topics[place] = 3
			}
			want := 1
			if topics[place] == 3 {
				want = 0
			}
			if got := means(t, p, a, row(topics...)); got != want {
				t.Errorf("%v: %d matches, want %d", topics, got, want)
			}
		}
	}
}

// All patterns of at most four nodes, in all rows of at most five events.
func TestAllShortPatternsInAllShortRows(t *testing.T) {
	topics := []api.Pred{asked(1), asked(2), ofAny()}
	for n := 1; n <= 4; n++ {
		for k, shape := range shapes(n) {
			for seed := range uint64(3) {
				p := within(1+seed*seed, asking(shape, seed*100+uint64(k), topics))
				if a, errno := auto.Compile(p); errno == api.OK {
					eachRow([]uint8{1, 2, 3}, 5, func(l []api.Logged) { means(t, p, a, l) })
				} else if n < 4 || errno != api.ErrLong && errno != api.ErrMany {
					t.Errorf("Compile of %s = %v", told(p), errno)
				}
			}
		}
	}
}

// The same of five and six nodes, in rows by noise.
func TestShortPatternsInLongRows(t *testing.T) {
	for n := 5; n <= 6; n++ {
		for k, shape := range shapes(n) {
			p := within(uint64(1+k%30), asking(shape, uint64(k), questions()))
			if a, errno := auto.Compile(p); errno == api.OK {
				means(t, p, a, grownRow(uint64(k)*3, 8+k%6))
			}
		}
	}
}

func TestLongPatternsInLongRows(t *testing.T) {
	found := 0
	for k, p := range grownPatterns(1500) {
		a, errno := auto.Compile(p)
		if errno != api.OK {
			continue
		}
		for seed := range uint64(4) {
			found += means(t, p, a, grownRow(seed*1000+uint64(k), int(4+seed*6)))
		}
	}
	if found < 10000 {
		t.Errorf("%d matches are too few to tell", found)
	}
}

// What an automaton's bounds leave room for, in rows that are long enough for it.
func TestGreatPatternsInLongRows(t *testing.T) {
	eight := rep(8, 8, one(1))
	for _, l := range []nodes{
		rep(8, 8, seq(times(4, one(1))...)), rep(1, 8, seq(times(4, one(1))...)), alt(eight, eight, eight, rep(7, 7, one(1)), one(2)),
		wide(8, 8), rep(1, 2, eitherOf(8)), rep(2, 8, not(2, seq(one(1), one(1)))), not(2, rep(3, 8, rep(1, 2, one(1)))),
		not(2, rep(1, 8, rep(1, 4, one(1)))), rep(4, 4, not(2, rep(2, 8, one(1)))), seq(eight, rep(1, 8, one(2)), rep(5, 8, one(1))),
	} {
		a := compiled(t, of(l))
		for seed := range uint64(6) {
			var topics []uint8
			for _, c := range noise(seed, 40) {
				topics = append(topics, 1+uint8(c>>8%(2+seed))/(1+uint8(seed)))
			}
			means(t, of(l), a, row(topics...))
		}
		means(t, of(l), a, row(slices.Repeat(topicsOf(1), 36)...))
	}
}

// wordStep is a question, and the guard ahead of it.
type wordStep struct {
	asked   uint8
	guarded bool
	guard   uint8
}

// wordsOf are all rows of single events that a node's pattern stands for, by the topics that are asked.
func wordsOf(l nodes) [][]wordStep {
	n, parts := l[0], tree.Parts(l)
	var all [][]wordStep
	switch n.Kind {
	case api.One:
		return [][]wordStep{{{asked: n.Pred.Topic}}}
	case api.Alt:
		for _, part := range parts {
			all = append(all, wordsOf(part)...)
		}
	case api.Seq:
		all = [][]wordStep{nil}
		for _, part := range parts {
			all = lengthened(all, wordsOf(part), n)
		}
	case api.Rep:
		words := [][]wordStep{nil}
		for copies := 1; copies <= int(n.Hi); copies++ {
			words = lengthened(words, wordsOf(parts[0]), n)
			if copies >= int(n.Lo) {
				all = append(all, words...)
			}
		}
	}
	return all
}

// lengthened are all words ahead with all words behind, and a node's Guard between them.
func lengthened(ahead, behind [][]wordStep, n api.Node) [][]wordStep {
	var all [][]wordStep
	for _, a := range ahead {
		for _, b := range behind {
			word := slices.Concat(a, b)
			if len(a) > 0 {
				word[len(a)].guarded, word[len(a)].guard = n.Guarded, n.Guard.Topic
			}
			all = append(all, word)
		}
	}
	return all
}

// waysOf are all ways of an automaton from some places on, behind a word.
func waysOf(a api.Auto, word []wordStep, steps []wordStep, places []uint8) [][]wordStep {
	var all [][]wordStep
	for k, place := range places {
		step := steps[k]
		step.asked = a.Preds[place].Topic
		longer := append(slices.Clone(word), step)
		if a.Last>>place&1 == 1 {
			all = append(all, longer)
		}
		var next []wordStep
		var behind []uint8
		for _, e := range a.Edges {
			if e.From == place {
				next = append(next, wordStep{guarded: e.Guarded, guard: e.Guard.Topic})
				behind = append(behind, e.To)
			}
		}
		all = append(all, waysOf(a, longer, next, behind)...)
	}
	return all
}

// waysFromFirst are all ways of an automaton.
func waysFromFirst(a api.Auto) [][]wordStep {
	var first []uint8
	for place := range a.Preds {
		if a.First>>place&1 == 1 {
			first = append(first, uint8(place))
		}
	}
	return waysOf(a, nil, make([]wordStep, len(first)), first)
}

// inRow are words as texts, in the order of texts.
func inRow(words [][]wordStep) []string {
	var all []string
	for _, word := range words {
		all = append(all, fmt.Sprint(word))
	}
	slices.Sort(all)
	return all
}

// The ways of an automaton are the rows of single events for which its pattern stands, each as often as the pattern stands for it.
func TestWaysAreWords(t *testing.T) {
	held := 0
	hold := func(l nodes) {
		p := of(telling(l))
		a, errno := auto.Compile(p)
		if errno != api.OK || a.Last == 0 || len(a.Preds) > 14 { // more places stand for too many rows
			return
		}
		held++
		if got, want := inRow(waysFromFirst(a)), inRow(wordsOf(p.Nodes)); !slices.Equal(got, want) {
			t.Fatalf("%s stands for %v, %s for %v", told(p), want, toldAuto(a), got)
		}
	}
	for n := 1; n <= 5; n++ {
		for _, shape := range shapes(n) {
			hold(shape)
		}
	}
	for seed := range uint64(3000) {
		hold(grown(seed, int(2+seed%12)))
	}
	if held < 2000 {
		t.Errorf("%d are too few to tell", held)
	}
}
