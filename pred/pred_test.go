package pred_test

import (
	"math"
	"slices"
	"strings"
	"testing"

	"equerry/api"
	"equerry/pred"
)

// P10.1: May

func TestMayOfWhatMayBe(t *testing.T) {
	for _, p := range preds() {
		if !pred.May(p) {
			t.Errorf("May of %s = false", short(p))
		}
	}
}

func TestMayOfWhatMayNotBe(t *testing.T) {
	for _, p := range wrongPreds() {
		if pred.May(p) {
			t.Errorf("May of %s = true", short(p))
		}
	}
}

func TestMayByTheNumberOfTests(t *testing.T) {
	for n := range 600 {
		for _, x := range []api.Test{test(0, api.Has, api.Value{}), test(9, api.Eq, whole(7)), test(255, api.Begins, text(""))} {
			tests := slices.Repeat([]api.Test{x}, n)
			if got := pred.May(asked(3, tests...)); got != (n <= 4) {
				t.Errorf("May of %d tests = %v", n, got)
			}
			if got := pred.May(ofAny(tests...)); got != (n <= 4) {
				t.Errorf("May of any, and %d tests = %v", n, got)
			}
		}
	}
}

// Of each Op the kinds of the values that may stand with it, as the chapter says them.
func TestMayOfEachOpAndKind(t *testing.T) {
	for op := range 256 {
		for _, c := range []struct {
			v    api.Value
			want bool
		}{
			{api.Value{}, op == 7},
			{whole(0), 1 <= op && op <= 6}, {whole(-5), 1 <= op && op <= 6},
			{number(0), 1 <= op && op <= 6}, {number(minus()), 1 <= op && op <= 6}, {number(math.NaN()), 1 <= op && op <= 6},
			{text(""), 1 <= op && op <= 6 || op == 8}, {text(long(255)), 1 <= op && op <= 6 || op == 8},
			{text(long(256)), false}, {api.Value{Int: 1}, false}, {api.Value{Real: minus()}, false}, {api.Value{Text: "a"}, false},
			{api.Value{Kind: api.Whole, Text: "a"}, false}, {api.Value{Kind: api.Real, Int: 1}, false}, {api.Value{Kind: api.Text, Int: 1}, false},
			{api.Value{Kind: 4}, false}, {api.Value{Kind: 128}, false}, {api.Value{Kind: 255}, false},
		} {
			if got := pred.May(ofAny(test(0, uint8(op), c.v))); got != c.want {
				t.Errorf("May of Op %d with %s = %v", op, shortValue(c.v), got)
			}
		}
	}
}

func TestMayOfEachOpAndValue(t *testing.T) {
	for op := range 256 {
		for i, v := range append(values(), wrongs()...) {
			x := test(uint8(i), uint8(op), v)
			if got := pred.May(asked(uint8(op), x)); got != plainMayTest(x) {
				t.Errorf("May of %s = %v", short(asked(uint8(op), x)), got)
			}
		}
	}
}

// One test that may not be is enough, wherever it stands.
func TestMayOfOneWrongTestAtEachPlace(t *testing.T) {
	for _, w := range wrongTests() {
		for n := 1; n <= most; n++ {
			for at := range n {
				tests := slices.Repeat([]api.Test{test(0, api.Has, api.Value{})}, n)
				tests[at] = w
				if pred.May(asked(1, tests...)) || pred.May(ofAny(tests...)) {
					t.Errorf("May of %s = true", short(asked(1, tests...)))
				}
			}
		}
	}
}

// A field that no event has may be asked for.
func TestMayOfEachField(t *testing.T) {
	for field := range 256 {
		for _, x := range []api.Test{test(uint8(field), api.Has, api.Value{}), test(uint8(field), api.Eq, whole(1)), test(uint8(field), api.Begins, text("a"))} {
			if !pred.May(asked(1, x)) {
				t.Errorf("May of %s = false", short(asked(1, x)))
			}
		}
	}
}

func TestMayOfEachTopic(t *testing.T) {
	for topic := range 256 {
		for n := range most + 1 {
			tests := someTests(topic, n)
			if !pred.May(asked(uint8(topic), tests...)) {
				t.Errorf("May of topic %d and %d tests = false", topic, n)
			}
			if got := pred.May(api.Pred{Any: true, Topic: uint8(topic), Tests: tests}); got != (topic == 0) {
				t.Errorf("May of any, topic %d and %d tests = %v", topic, n, got)
			}
		}
	}
}

// P10.1: Holds

// wantHolds wants a question to hold of an event, or not.
func wantHolds(t *testing.T, p api.Pred, e api.Event, want bool) {
	t.Helper()
	if got := pred.Holds(p, e); got != want {
		t.Errorf("Holds of %s, of %s = %v", short(p), shortEvent(e), got)
	}
}

func TestHoldsOfTheExamples(t *testing.T) {
	above5 := asked(1, test(0, api.Gt, whole(5)))
	wantHolds(t, above5, of(1, whole(7)), true)
	wantHolds(t, above5, of(1, whole(5)), false)
	wantHolds(t, above5, of(1), false)
}

func TestHoldsOfEachTopic(t *testing.T) {
	for a := range 256 {
		for b := range 256 {
			wantHolds(t, asked(uint8(a)), of(uint8(b)), a == b)
			wantHolds(t, asked(uint8(a), test(0, api.Eq, whole(7))), of(uint8(b), whole(7)), a == b)
		}
		wantHolds(t, ofAny(), of(uint8(a)), true)
		wantHolds(t, ofAny(test(0, api.Eq, whole(7))), of(uint8(a), whole(7)), true)
		wantHolds(t, ofAny(test(0, api.Eq, whole(7))), of(uint8(a), whole(8)), false)
	}
}

// Any with a topic may not be: it holds of nothing, that topic's events among them.
func TestHoldsOfAnyWithATopic(t *testing.T) {
	for topic := range 256 {
		for _, e := range []api.Event{of(0), of(uint8(topic)), of(2), of(255)} {
			wantHolds(t, api.Pred{Any: true, Topic: uint8(topic)}, e, topic == 0)
		}
	}
}

func TestHoldsAtTheEdges(t *testing.T) {
	nan := number(math.NaN())
	for i, c := range []struct {
		op   uint8
		v, f api.Value
		want bool
	}{
		{api.Has, api.Value{}, api.Value{}, false}, {api.Has, api.Value{}, whole(0), true}, {api.Has, api.Value{}, number(0), true}, {api.Has, api.Value{}, nan, true}, {api.Has, api.Value{}, text(""), true},
		{api.Begins, text(""), text(""), true}, {api.Begins, text(""), text("a"), true}, {api.Begins, text("ab"), text("ab"), true}, {api.Begins, text("ab"), text("abc"), true},
		{api.Begins, text("ab"), text("a"), false}, {api.Begins, text("ab"), text(""), false}, {api.Begins, text("ab"), text("aab"), false}, {api.Begins, text("ab"), text("Ab"), false}, {api.Begins, text("b"), text("ab"), false}, {api.Begins, text("\x00"), text(""), false},
		{api.Begins, text("gr\xc3"), text("gr\u00fc\u00df"), true}, {api.Begins, text("\xff"), text("\xff\xff"), true}, {api.Begins, text(long(255)), text(long(255)), true}, {api.Begins, text(long(254)), text(long(255)), true}, {api.Begins, text(long(255)), text(long(254)), false},
		{api.Begins, text(""), api.Value{}, false}, {api.Begins, text(""), whole(0), false}, {api.Begins, text(""), number(0), false}, {api.Begins, text("7"), whole(7), false},
		{api.Eq, whole(7), whole(7), true}, {api.Eq, whole(7), number(7), true}, {api.Eq, number(7), whole(7), true}, {api.Eq, text("7"), whole(7), false}, {api.Eq, text("a"), text("a"), true}, {api.Eq, text("a"), text("ab"), false}, {api.Eq, text("ab"), text("a"), false},
		{api.Eq, number(0), number(minus()), true}, {api.Eq, number(minus()), whole(0), true}, {api.Ne, number(0), number(minus()), false}, {api.Le, number(minus()), number(0), true}, {api.Ge, number(0), number(minus()), true}, {api.Lt, number(0), number(minus()), false}, {api.Gt, number(minus()), number(0), false},
		{api.Ne, whole(7), whole(8), true}, {api.Ne, whole(7), whole(6), true}, {api.Ne, whole(7), whole(7), false}, {api.Ne, whole(7), text("7"), false}, {api.Ne, text("7"), whole(7), false}, {api.Ne, whole(7), api.Value{}, false},
		{api.Ne, whole(1), nan, false}, {api.Ne, nan, whole(1), false}, {api.Eq, nan, nan, false}, {api.Ne, nan, nan, false}, {api.Le, nan, nan, false}, {api.Ge, nan, number(math.Inf(1)), false},
		{api.Lt, whole(5), whole(4), true}, {api.Lt, whole(5), whole(5), false}, {api.Lt, whole(5), whole(6), false}, {api.Lt, whole(1), number(0.5), true}, {api.Lt, text("b"), text("ab"), true}, {api.Lt, text("a"), text("ab"), false},
		{api.Le, whole(5), whole(4), true}, {api.Le, whole(5), whole(5), true}, {api.Le, whole(5), whole(6), false}, {api.Le, text("x"), number(0.5), false},
		{api.Gt, whole(5), whole(4), false}, {api.Gt, whole(5), whole(5), false}, {api.Gt, whole(5), whole(6), true}, {api.Gt, text("ab"), text("abc"), true}, {api.Gt, number(1 << 53), whole(1<<53 + 1), true},
		{api.Ge, whole(5), whole(4), false}, {api.Ge, whole(5), whole(5), true}, {api.Ge, whole(5), whole(6), true}, {api.Ge, number(7.5), whole(7), false}, {api.Ge, whole(math.MinInt64), number(-1 << 63), true},
	} {
		for _, p := range []api.Pred{asked(2, test(1, c.op, c.v)), ofAny(test(1, c.op, c.v))} {
			if got := pred.Holds(p, of(2, text("ahead"), c.f, whole(1))); got != c.want {
				t.Errorf("%d: Holds of %s, of %s = %v", i, short(p), shortValue(c.f), got)
			}
		}
	}
}

func TestHoldsOfEachOpValueAndField(t *testing.T) {
	for op := range uint8(12) {
		for _, v := range append(values(), wrongs()...) {
			p := asked(3, test(0, op, v))
			for _, f := range append(values(), wrongs()...) {
				e := of(3, f)
				if got := pred.Holds(p, e); got != plainHolds(p, e) {
					t.Fatalf("Holds of %s, of %s = %v", short(p), shortEvent(e), got)
				}
			}
		}
	}
}

// mayBe is a value that may stand with an Op.
func mayBe(op uint8) api.Value {
	switch op {
	case api.Has:
		return api.Value{}
	case api.Begins:
		return text("")
	}
	return whole(7)
}

// A field that isn't there has nothing: no Op holds of it, Ne among them.
func TestHoldsOfFieldsThatAreNotThere(t *testing.T) {
	for n := range 9 {
		fields := slices.Repeat([]api.Value{text("ahead")}, n)
		for field := range 256 {
			wantHolds(t, ofAny(test(uint8(field), api.Has, api.Value{})), of(1, fields...), field < n)
			wantHolds(t, ofAny(test(uint8(field), api.Begins, text("a"))), of(1, fields...), field < n)
			wantHolds(t, ofAny(test(uint8(field), api.Ne, text("a"))), of(1, fields...), field < n)
			for op := uint8(1); op <= 8 && field >= n; op++ {
				wantHolds(t, ofAny(test(uint8(field), op, mayBe(op))), of(1, fields...), false)
			}
		}
	}
}

// A field that is None is there, but none of the Ops holds of it.
func TestHoldsOfFieldsThatAreNone(t *testing.T) {
	for op := uint8(1); op <= 8; op++ {
		for field := range uint8(8) {
			fields := slices.Repeat([]api.Value{whole(7)}, 8)
			fields[field] = api.Value{}
			wantHolds(t, ofAny(test(field, op, mayBe(op))), of(1, fields...), false)
		}
	}
}

// Fields are numbered from 0 on: each test asks its own one, and no other.
func TestHoldsOfTheFieldThatIsAsked(t *testing.T) {
	for field := range uint8(8) {
		for other := range uint8(8) {
			fields := make([]api.Value, 8)
			fields[other] = whole(7)
			for _, op := range []uint8{api.Eq, api.Ge, api.Le, api.Has} {
				wantHolds(t, ofAny(test(field, op, mayBe(op))), of(1, fields...), field == other)
			}
		}
	}
}

// All tests must hold, wherever one stands that doesn't.
func TestHoldsOnlyIfAllTestsDo(t *testing.T) {
	for n := range most + 1 {
		for holding := range 1 << n {
			tests := make([]api.Test, n)
			fields := make([]api.Value, n)
			for i := range tests {
				tests[i], fields[i] = test(uint8(i), api.Eq, whole(7)), whole(int64(6+holding>>i&1))
			}
			wantHolds(t, asked(4, tests...), of(4, fields...), holding == 1<<n-1)
			wantHolds(t, ofAny(tests...), of(4, fields...), holding == 1<<n-1)
			wantHolds(t, asked(5, tests...), of(4, fields...), false)
		}
	}
}

// More tests than one may ask the same field.
func TestHoldsOfSeveralTestsOfOneField(t *testing.T) {
	between := ofAny(test(0, api.Gt, whole(3)), test(0, api.Le, number(5.5)), test(0, api.Ne, whole(4)), test(0, api.Has, api.Value{}))
	for n := range int64(10) {
		wantHolds(t, between, of(1, whole(n)), n == 5)
	}
}

func TestHoldsOfQuestionsThatMayNotBe(t *testing.T) {
	events := []api.Event{of(0), of(1), of(1, make([]api.Value, 8)...), of(1, whole(7), whole(7), text("a"), text("a"), number(7), whole(7), whole(7), whole(7))}
	for _, p := range wrongPreds() {
		for _, e := range append(events, of(p.Topic)) {
			wantHolds(t, p, e, false)
		}
	}
}

// Five tests that would all hold are too many.
func TestHoldsOfTooManyTests(t *testing.T) {
	for n := range 300 {
		wantHolds(t, ofAny(slices.Repeat([]api.Test{test(0, api.Has, api.Value{})}, n)...), of(1, whole(7)), n <= 4)
	}
}

// What may not be holds of nothing, though its other tests hold, and though it would hold itself, if it were asked.
func TestHoldsOfWrongTestsThatWouldHold(t *testing.T) {
	for _, w := range []api.Test{test(0, api.Has, whole(7)), test(0, api.Has, text("")), test(1, api.Begins, api.Value{}), test(0, api.Eq, api.Value{Kind: api.Whole, Int: 7, Text: "a"}), test(0, 0, whole(7)), test(0, 9, whole(7)), test(2, api.Eq, api.Value{}), test(0, api.Eq|8, whole(7)), test(0, api.Eq|128, whole(7))} {
		fine := test(0, api.Has, api.Value{})
		for _, tests := range [][]api.Test{{w}, {w, fine}, {fine, w}, {fine, fine, fine, w}} {
			wantHolds(t, asked(1, tests...), of(1, whole(7), text("abc"), api.Value{}), false)
		}
	}
}

func TestHoldsOfEventsThatMayNotBe(t *testing.T) {
	for _, e := range wrongEvents() {
		for _, p := range []api.Pred{ofAny(), asked(1), ofAny(test(0, api.Has, api.Value{})), ofAny(test(0, api.Eq, whole(7))), ofAny(test(1, api.Eq, whole(7)))} {
			wantHolds(t, p, e, false)
		}
	}
	full := of(1, slices.Repeat([]api.Value{whole(7)}, 8)...)
	wantHolds(t, asked(1), full, true)
	wantHolds(t, asked(1), of(1, append(full.Fields, whole(7))...), false)
}

// someEvents are events that many of the questions of preds hold of.
func someEvents() []api.Event {
	all := values()
	events := []api.Event{of(0), of(1)}
	for i, c := range noise(10, 60) {
		fields := make([]api.Value, c%9)
		for k := range fields {
			fields[k] = all[int(c>>8%1000+uint64(k*i))%len(all)]
		}
		events = append(events, of(uint8(c>>40%8*5), fields...))
	}
	return events
}

func TestHoldsOfAll(t *testing.T) {
	held := 0
	for _, e := range someEvents() {
		for _, p := range preds() {
			want := plainHolds(p, e)
			if want {
				held++
			}
			wantHolds(t, p, e, want)
		}
	}
	if held < 1000 {
		t.Errorf("only %d questions hold", held)
	}
}

// P10.3

// holding are the Ops from Eq to Ge that hold of a field and a value, at their numbers.
func holding(f, v api.Value) [7]bool {
	var all [7]bool
	for _, op := range compares() {
		all[op] = pred.Holds(ofAny(test(0, op, v)), of(1, f))
	}
	return all
}

func TestOneOfThree(t *testing.T) {
	for _, f := range values() {
		for _, v := range values()[1:] {
			got := holding(f, v)
			lt, eq, gt := got[api.Lt], got[api.Eq], got[api.Gt]
			if _, compared := plainCompare(f, v); !compared {
				if got != [7]bool{} {
					t.Fatalf("%s and %s aren't compared: %v", shortValue(f), shortValue(v), got)
				}
				continue
			}
			if !lt && !eq && !gt || lt && eq || eq && gt || lt && gt {
				t.Fatalf("%s and %s: %v", shortValue(f), shortValue(v), got)
			}
			if got[api.Ne] == eq || got[api.Le] == gt || got[api.Ge] == lt {
				t.Fatalf("%s and %s: %v", shortValue(f), shortValue(v), got)
			}
		}
	}
}

// From the other side what is less is greater, and what is the same stays so.
func TestTheOtherWayRound(t *testing.T) {
	for _, f := range values()[1:] {
		for _, v := range values()[1:] {
			a, b := holding(f, v), holding(v, f)
			turned := [7]bool{api.Eq: b[api.Eq], api.Ne: b[api.Ne], api.Lt: b[api.Gt], api.Le: b[api.Ge], api.Gt: b[api.Lt], api.Ge: b[api.Le]}
			if a != turned {
				t.Fatalf("%s and %s: %v, the other way round %v", shortValue(f), shortValue(v), a, b)
			}
		}
	}
}

// P10.1: Same

// wantSame wants an answer, whichever of the two comes first.
func wantSame(t *testing.T, a, b api.Pred, want bool) {
	t.Helper()
	if pred.Same(a, b) != want || pred.Same(b, a) != want {
		t.Errorf("Same of %s, and %s = %v, %v", short(a), short(b), pred.Same(a, b), pred.Same(b, a))
	}
}

func TestSameOfItself(t *testing.T) {
	for _, p := range append(preds(), wrongPreds()...) {
		wantSame(t, p, p, true)
		wantSame(t, p, copied(p), true)
	}
}

func TestSameOfAll(t *testing.T) {
	all := append(preds(), wrongPreds()[:400]...)
	for i, a := range all {
		for k := i % 7; k < len(all); k += 7 {
			if got := pred.Same(a, all[k]); got != plainSame(a, all[k]) {
				t.Fatalf("Same of %s, and %s = %v", short(a), short(all[k]), got)
			}
		}
	}
}

// others are values that differ from one: in kind, or in what it holds.
func others(v api.Value) []api.Value {
	return slices.DeleteFunc(values(), func(w api.Value) bool { return plainHeld(test(0, 0, v)) == plainHeld(test(0, 0, w)) })
}

// Questions that differ in one place alone aren't the same.
func TestSameOfOneDifference(t *testing.T) {
	for n := 1; n <= 6; n++ {
		for start := range 40 {
			p := asked(uint8(start), someTests(start, n)...)
			q := copied(p)
			q.Any = true
			wantSame(t, p, q, false)
			for _, bit := range []uint8{1, 2, 64, 128} {
				q = copied(p)
				q.Topic ^= bit
				wantSame(t, p, q, false)
			}
			wantSame(t, p, asked(p.Topic, p.Tests[:n-1]...), false)
			wantSame(t, p, asked(p.Topic, p.Tests[1:]...), false)
			for at := range n {
				sameButOneTest(t, p, at)
			}
		}
	}
}

// sameButOneTest wants no question to be the same whose test at a place differs in a field, an Op, or a value.
func sameButOneTest(t *testing.T, p api.Pred, at int) {
	t.Helper()
	for _, bit := range []uint8{1, 2, 16, 128} {
		q := copied(p)
		q.Tests[at].Field ^= bit
		wantSame(t, p, q, false)
		q = copied(p)
		q.Tests[at].Op ^= bit
		wantSame(t, p, q, false)
	}
	for _, w := range others(p.Tests[at].Value) {
		q := copied(p)
		q.Tests[at].Value = w
		wantSame(t, p, q, false)
	}
}

func TestSameAtTheEdges(t *testing.T) {
	one := func(v api.Value) api.Pred { return asked(1, test(2, api.Eq, v)) }
	wantSame(t, api.Pred{}, api.Pred{Tests: []api.Test{}}, true)
	wantSame(t, api.Pred{}, ofAny(), false)
	wantSame(t, one(number(math.NaN())), one(ofBits(theNaN+1)), true)
	wantSame(t, one(number(0)), one(number(minus())), false)
	wantSame(t, one(whole(7)), one(number(7)), false)
	wantSame(t, one(whole(7)), one(api.Value{Kind: api.Whole, Int: 7, Text: "a"}), true)
	wantSame(t, one(api.Value{}), one(api.Value{Int: 1, Text: "a"}), true)
	wantSame(t, one(api.Value{Kind: 4, Int: 1}), one(api.Value{Kind: 4, Int: 2}), true)
	wantSame(t, one(api.Value{Kind: 4}), one(api.Value{Kind: 5}), false)
	wantSame(t, one(text(long(256))), one(text(long(256))), true)
	wantSame(t, one(text(long(256))), one(text(long(257))), false)
	a, b := test(0, api.Has, api.Value{}), test(1, api.Has, api.Value{})
	wantSame(t, ofAny(a, b), ofAny(b, a), false)
	wantSame(t, ofAny(a, a), ofAny(a), false)
	wantSame(t, api.Pred{Any: true, Topic: 7}, api.Pred{Any: true, Topic: 7}, true)
	wantSame(t, api.Pred{Any: true, Topic: 7}, api.Pred{Any: true, Topic: 8}, false)
}

// Also where there are more tests than may be, each counts, the last one too.
func TestSameOfManyTests(t *testing.T) {
	for _, n := range []int{5, 16, 255, 256, 257, 1000} {
		p := asked(1, slices.Repeat([]api.Test{test(0, api.Eq, whole(7))}, n)...)
		q := copied(p)
		wantSame(t, p, q, true)
		q.Tests[n-1].Value.Int++
		wantSame(t, p, q, false)
		wantSame(t, p, asked(1, p.Tests[:n-1]...), false)
		wantSame(t, p, asked(1), false)
	}
}

// R3, R4, R5

// What is handed in stays as it is, and isn't kept.
func TestWhatIsHandedInStays(t *testing.T) {
	e := of(1, whole(7), text("abc"), number(0.5), api.Value{})
	for _, p := range append(preds(), wrongPreds()...) {
		handed, event := copied(p), copiedEvent(e)
		pred.May(handed)
		pred.Holds(handed, event)
		pred.Same(handed, handed)
		pred.Put(nil, handed)
		if !identical(handed, p) || !identicalEvent(event, e) {
			t.Fatalf("%s became %s, %s became %s", short(p), short(handed), shortEvent(e), shortEvent(event))
		}
	}
}

func TestNoListIsAnEmptyOne(t *testing.T) {
	none, empty := asked(7), api.Pred{Topic: 7, Tests: []api.Test{}}
	wantSame(t, none, empty, true)
	for _, p := range []api.Pred{none, empty} {
		if !pred.May(p) {
			t.Error("a question without tests may not be")
		}
		wantHolds(t, p, api.Event{Topic: 7}, true)
		wantHolds(t, p, api.Event{Topic: 7, Fields: []api.Value{}}, true)
		for _, front := range [][]byte{nil, {}} {
			if b, errno := pred.Put(front, p); string(b) != "\x00\x07" || errno != api.OK {
				t.Errorf("Put of no tests = %x, %v", b, errno)
			}
		}
	}
}

// R1: any question and event are answered as the chapter says.
func FuzzAnyQuestions(f *testing.F) {
	f.Add(true, uint8(0), uint8(1), uint8(0), uint8(api.Has), uint8(0), int64(0), uint64(0), "", uint8(1), int64(7), uint64(0), "")
	f.Add(false, uint8(1), uint8(4), uint8(0), uint8(api.Gt), uint8(1), int64(5), uint64(0), "", uint8(2), int64(0), math.Float64bits(7.5), "")
	f.Add(false, uint8(1), uint8(5), uint8(0), uint8(api.Begins), uint8(3), int64(0), uint64(0), "ab", uint8(3), int64(0), uint64(0), "abc")
	f.Add(true, uint8(1), uint8(2), uint8(9), uint8(9), uint8(4), int64(1), theNaN, "ab", uint8(4), int64(0), uint64(0), "abc")
	f.Fuzz(func(t *testing.T, anyTopic bool, topic, n, field, op, kind uint8, i int64, bits uint64, s string, fieldKind uint8, j int64, fieldBits uint64, r string) {
		v := api.Value{Kind: kind, Int: i, Real: math.Float64frombits(bits), Text: s}
		held := api.Value{Kind: fieldKind, Int: j, Real: math.Float64frombits(fieldBits), Text: r}
		for _, v := range []api.Value{v, {Kind: kind}, whole(i), ofBits(bits), text(s)} {
			tests := append(someTests(int(n), int(n%6)), test(field, op, v))
			for _, tests := range [][]api.Test{nil, tests, tests[len(tests)-1:]} {
				p := api.Pred{Any: anyTopic, Topic: topic, Tests: tests}
				if pred.May(p) != plainMay(p) || !pred.Same(p, copied(p)) || pred.Same(p, ofAny(tests...)) != plainSame(p, ofAny(tests...)) {
					t.Errorf("%s: May %v", short(p), pred.May(p))
				}
				for _, e := range []api.Event{of(topic, held, whole(j), ofBits(fieldBits), text(r), text(s+r)), of(topic, text(strings.TrimPrefix(s, r)), whole(i)), of(n, held)} {
					wantHolds(t, p, e, plainHolds(p, e))
				}
				putAsSaid(t, []byte(r), p)
			}
		}
	})
}
