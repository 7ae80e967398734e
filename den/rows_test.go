package den_test

import (
	"slices"
	"testing"

	"equerry/api"
	"equerry/den"
	"equerry/tree"
)

// matched are the matches of what may be.
func matched(t *testing.T, p api.Pattern, l []api.Logged) []api.Match {
	t.Helper()
	got, errno := den.Matches(p, l)
	if errno != api.OK {
		t.Fatalf("Matches of %s in %s = %v", told(p), toldRow(l), errno)
	}
	return got
}

// asSaid wants of a pattern and a row the matches that the chapter says.
func asSaid(t *testing.T, p api.Pattern, l []api.Logged) {
	t.Helper()
	if got, want := matched(t, p, l), plainMatches(p, l); !slices.Equal(got, want) {
		t.Fatalf("Matches of %s in %s = %v, want %v", told(p), toldRow(l), got, want)
	}
}

// goesOn wants of each beginning of a row the matches of the row that end in it.
func goesOn(t *testing.T, p api.Pattern, l []api.Logged) {
	t.Helper()
	all := matched(t, p, l)
	for n := range l {
		var want []api.Match
		for _, match := range all {
			if match.To < uint64(n) {
				want = append(want, match)
			}
		}
		if got := matched(t, p, l[:n]); !slices.Equal(got, want) {
			t.Fatalf("Matches of %s in %s = %v, of its first %d %v", told(p), toldRow(l), all, n, got)
		}
	}
}

// P12.1

// All patterns of at most four nodes, in all rows of at most five events.
func TestAllShortPatternsInAllShortRows(t *testing.T) {
	topics := []api.Pred{asked(1), asked(2), ofAny()}
	for n := 1; n <= 4; n++ {
		for k, shape := range shapes(n) {
			for seed := range uint64(4) {
				p := within(1+seed*seed, asking(shape, seed*100+uint64(k), topics))
				eachRow([]uint8{1, 2, 3}, 5, func(l []api.Logged) { asSaid(t, p, l) })
			}
		}
	}
}

// The same, told by all rows of single events for which a pattern stands.
func TestWordsOfPatterns(t *testing.T) {
	topics := []api.Pred{asked(1), asked(2), ofAny()}
	for n := 1; n <= 5; n++ {
		for k, shape := range shapes(n) {
			p := within(uint64(1+k%5), asking(shape, uint64(k), topics))
			if tree.May(p) != api.OK || tree.Places(p) > 9 { // more places stand for too many rows
				continue
			}
			words := wordsOf(p.Nodes)
			eachRow([]uint8{1, 2}, 6, func(l []api.Logged) {
				if got, want := matched(t, p, l), speltMatches(words, p.Window, l); !slices.Equal(got, want) {
					t.Fatalf("Matches of %s in %s = %v, want %v", told(p), toldRow(l), got, want)
				}
			})
		}
	}
}

// longPatterns are patterns by noise that may be, of up to 16 nodes, with windows of all lengths.
func longPatterns() []api.Pattern {
	var all []api.Pattern
	for seed := range uint64(700) {
		p := within(1+seed%17, asking(grown(seed, int(2+seed%15)), seed, questions()))
		if tree.May(p) == api.OK {
			all = append(all, p)
		}
	}
	return all
}

func TestLongPatternsInLongRows(t *testing.T) {
	found := 0
	for k, p := range longPatterns() {
		for seed := range uint64(6) {
			l := grownRow(seed*1000+uint64(k), int(4+seed*3))
			asSaid(t, p, l)
			found += len(matched(t, p, l))
		}
	}
	if found < 10000 {
		t.Errorf("%d matches are too few to tell", found)
	}
}

func TestHappensIsWhatMatches(t *testing.T) {
	for k, p := range longPatterns()[:150] {
		l := grownRow(uint64(k), 1+k%9)
		wantHappens(t, p, l, matched(t, p, l))
	}
}

// Long rows, of which the window leaves little at once.
func TestManyEvents(t *testing.T) {
	l := row(slices.Repeat([]uint8{1, 2, 3, 1, 2}, 600)...)
	var want []api.Match
	for k := uint64(0); k < 3000; k += 5 {
		if k > 0 {
			want = append(want, m(k-2, k+1))
		}
		want = append(want, m(k, k+1), m(k+3, k+4))
	}
	if got := matched(t, within(3, guarded(asked(3), seq(one(1), one(2)))), l); !slices.Equal(got, want) {
		t.Errorf("%d matches, want %d", len(got), len(want))
	}
}

// P12.2

func TestWhatComesLaterChangesNothing(t *testing.T) {
	for k, p := range longPatterns() {
		goesOn(t, p, grownRow(uint64(k)*7, 14))
	}
	topics := []api.Pred{asked(1), asked(2), ofAny()}
	for k, shape := range shapes(4) {
		p := within(uint64(1+k%5), asking(shape, uint64(k)+50, topics))
		eachRow([]uint8{1, 2, 3}, 5, func(l []api.Logged) {
			if len(l) == 5 {
				goesOn(t, p, l)
			}
		})
	}
}

// Whatever comes behind a row, a Guard's events among it, none of its matches is gone, and none is new.
func TestWhatComesLaterIsNotAsked(t *testing.T) {
	for _, p := range []nodes{
		one(1), seq(one(1), one(2)), guarded(asked(2), seq(one(1), one(2))), guarded(ofAny(), rep(1, 3, one(1))), alt(one(1), seq(one(1), one(1))),
	} {
		ahead := row(1, 2, 1, 1, 2)
		want := matched(t, of(p), ahead)
		eachRow([]uint8{1, 2, 3}, 3, func(behind []api.Logged) {
			l := slices.Concat(ahead, behind)
			for i := range behind {
				l[5+i].At = 5 + uint64(i)*mostWindow
			}
			if got := matched(t, of(p), l); !slices.Equal(got[:min(len(want), len(got))], want) || len(got) > len(want) && got[len(want)].To < 5 {
				t.Fatalf("Matches of %s in %s = %v, want %v ahead", told(of(p)), toldRow(l), got, want)
			}
		})
	}
}

// R3, R5

func TestNothingHandedInIsChanged(t *testing.T) {
	for k, p := range longPatterns()[:200] {
		l := grownRow(uint64(k), 12)
		nodesBefore, rowBefore := copiedPattern(p), copiedRow(l)
		matches := matched(t, p, l)
		den.Happens(p, l, 0, 5)
		den.May(l)
		if !tree.Same(p, nodesBefore) || !slices.EqualFunc(l, rowBefore, sameLogged) {
			t.Fatalf("%s, %s were %s, %s", told(p), toldRow(l), told(nodesBefore), toldRow(rowBefore))
		}
		for i := range matches {
			matches[i] = m(99, 99)
		}
		if got := matched(t, p, l); slices.Contains(got, m(99, 99)) || !slices.Equal(got, plainMatches(p, l)) {
			t.Fatalf("what is written into the matches of %s is answered again", told(p))
		}
	}
}

// What is written into a pattern, or a row, is seen in the next call, and not in what was answered.
func TestNothingHandedInIsKept(t *testing.T) {
	p, l := of(seq(one(1), one(2))), row(1, 2, 3)
	before := matched(t, p, l)
	l[2].Event.Topic = 2
	wantMatches(t, p, l, m(0, 1), m(0, 2))
	p.Nodes[2].Pred.Topic = 1
	wantMatches(t, p, l)
	p.Nodes[1].Pred.Topic, p.Nodes[2].Pred.Topic = 2, 2
	wantMatches(t, p, l, m(1, 2))
	if !slices.Equal(before, []api.Match{m(0, 1)}) {
		t.Errorf("what was answered is %v now", before)
	}
}

// A row that has room behind it, and a pattern whose nodes have: neither is asked, nor written.
func TestRoomBehindWhatIsHandedIn(t *testing.T) {
	l, behind := row(1, 2, 2, 2), seq(one(1), one(2))
	behind = append(behind, api.Node{Kind: 77, Size: 5})
	p := of(behind[:3])
	wantMatches(t, p, l[:2], m(0, 1))
	l[3].Event.Fields = make([]api.Value, 20)
	wantMatches(t, p, l[:3], m(0, 1), m(0, 2))
	if behind[3].Kind != 77 || l[2].Event.Topic != 2 {
		t.Errorf("%v, %v was written", behind[3], l[2])
	}
}

func TestTheSameAnswerAgain(t *testing.T) {
	for k, p := range longPatterns()[:100] {
		l := grownRow(uint64(k), 16)
		want := matched(t, p, l)
		for range 5 {
			if got := matched(t, copiedPattern(p), copiedRow(l)); !slices.Equal(got, want) {
				t.Fatalf("Matches of %s in %s = %v, then %v", told(p), toldRow(l), want, got)
			}
		}
	}
}
