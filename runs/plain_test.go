package runs_test

import (
	"fmt"
	"slices"
	"strings"
	"testing"

	"equerry/api"
	"equerry/auto"
	"equerry/event"
	"equerry/pred"
	"equerry/runs"
)

const (
	mostWindow = 1 << 20
	mostTime   = 1 << 40
	mostIndex  = 1 << 40
	mostRuns   = 64
)

// nodes are nodes, one behind the other.
type nodes = []api.Node

func asked(topic uint8, tests ...api.Test) api.Pred { return api.Pred{Topic: topic, Tests: tests} }

func ofAny(tests ...api.Test) api.Pred { return api.Pred{Any: true, Tests: tests} }

func whole(n int64) api.Value { return api.Value{Kind: api.Whole, Int: n} }

func text(s string) api.Value { return api.Value{Kind: api.Text, Text: s} }

func has(field uint8) api.Test { return api.Test{Field: field, Op: api.Has} }

func above(field uint8, n int64) api.Test {
	return api.Test{Field: field, Op: api.Gt, Value: whole(n)}
}

// asks is a One of a question.
func asks(p api.Pred) nodes { return nodes{{Kind: api.One, Pred: p}} }

// one is a One of a topic.
func one(topic uint8) nodes { return asks(asked(topic)) }

// each is a One of any topic.
func each() nodes { return asks(ofAny()) }

// node is a node of a kind with parts.
func node(kind uint8, parts ...nodes) nodes {
	behind := slices.Concat(parts...)
	return slices.Concat(nodes{{Kind: kind, Size: len(behind)}}, behind)
}

func seq(parts ...nodes) nodes { return node(api.Seq, parts...) }

func alt(parts ...nodes) nodes { return node(api.Alt, parts...) }

func rep(lo, hi uint8, part nodes) nodes {
	l := node(api.Rep, part)
	l[0].Lo, l[0].Hi = lo, hi
	return l
}

// guarded are nodes of which the first one is Guarded.
func guarded(guard api.Pred, l nodes) nodes {
	l = slices.Clone(l)
	l[0].Guarded, l[0].Guard = true, guard
	return l
}

// not are nodes of which the first one is Guarded by a topic.
func not(topic uint8, l nodes) nodes { return guarded(asked(topic), l) }

// times are n times the same part.
func times(n int, part nodes) []nodes { return slices.Repeat([]nodes{part}, n) }

// eitherOf is an Alt of n Ones.
func eitherOf(n int) nodes { return alt(times(n, one(1))...) }

// wide is a Seq of two Alts, of so many Ones each.
func wide(a, b int) nodes { return seq(eitherOf(a), eitherOf(b)) }

// pair is a Seq of the topics 1 and 2.
func pair() nodes { return seq(one(1), one(2)) }

// within is a pattern with a window.
func within(window uint64, l nodes) api.Pattern { return api.Pattern{Nodes: l, Window: window} }

// of is a pattern whose window is as great as may be.
func of(l nodes) api.Pattern { return within(mostWindow, l) }

// logged is an event in the log.
func logged(at uint64, topic uint8, fields ...api.Value) api.Logged {
	return api.Logged{Pub: 7, Seq: 100 - at, At: at, Event: api.Event{Topic: topic, Fields: fields}}
}

// row is a row of events of some topics, one a tick.
func row(topics ...uint8) []api.Logged {
	var all []api.Logged
	for i, topic := range topics {
		all = append(all, logged(uint64(i), topic))
	}
	return all
}

// m is a match.
func m(from, to uint64) api.Match { return api.Match{From: from, To: to} }

// noise is n numbers that look like chance, and are the same each time.
func noise(seed uint64, n int) []uint64 {
	all := make([]uint64, n)
	for i := range all {
		seed = seed*6364136223846793005 + 1442695040888963407
		all[i] = seed ^ seed>>29
	}
	return all
}

// eachRow calls for all rows of at most n events of some topics, one a tick.
func eachRow(topics []uint8, n int, call func(l []api.Logged)) {
	rows := [][]uint8{nil}
	for len(rows) > 0 {
		ahead := rows[0]
		rows = rows[1:]
		call(row(ahead...))
		for _, topic := range topics {
			if len(ahead) < n {
				rows = append(rows, append(slices.Clone(ahead), topic))
			}
		}
	}
}

// splits are all rows of at least two numbers, each at least 1, that are n together.
func splits(n int) [][]int {
	var all [][]int
	for ahead := 1; ahead < n; ahead++ {
		all = append(all, []int{ahead, n - ahead})
		for _, rest := range splits(n - ahead) {
			all = append(all, append([]int{ahead}, rest...))
		}
	}
	return all
}

// forests are all ways to have shapes of so many nodes each, one behind the other.
func forests(sizes []int) [][]nodes {
	all := [][]nodes{nil}
	for _, n := range sizes {
		var longer [][]nodes
		for _, ahead := range all {
			for _, shape := range shapes(n) {
				longer = append(longer, append(slices.Clone(ahead), shape))
			}
		}
		all = longer
	}
	return all
}

// shapes are all nodes' patterns of n nodes, of each kind that may stand there, with a guard and without one; what they ask is left open.
func shapes(n int) []nodes {
	if n == 1 {
		return []nodes{each()}
	}
	var all []nodes
	for _, part := range shapes(n - 1) {
		all = append(all, rep(1, 2, part), guarded(ofAny(), rep(2, 3, part)), rep(2, 2, part))
	}
	for _, sizes := range splits(n - 1) {
		for _, parts := range forests(sizes) {
			all = append(all, seq(parts...), guarded(ofAny(), seq(parts...)), alt(parts...))
		}
	}
	return all
}

// asking is a shape whose questions are some of those handed in, by noise.
func asking(l nodes, seed uint64, questions []api.Pred) nodes {
	l = slices.Clone(l)
	c := noise(seed, len(l))
	for i := range l {
		question := questions[c[i]>>8%uint64(len(questions))]
		if l[i].Kind == api.One {
			l[i].Pred = question
		}
		if l[i].Guarded {
			l[i].Guard = question
		}
	}
	return l
}

// grown is a node's pattern by noise, of some n nodes; what they ask is left open.
func grown(seed uint64, n int) nodes {
	c := noise(seed, 3)
	if n <= 1 {
		return each()
	}
	var l nodes
	if n == 2 || c[1]%4 == 0 {
		lo := uint8(1 + c[2]>>4%3)
		l = rep(lo, lo+uint8(c[2]>>8%3), grown(c[0], n-1))
	} else {
		ahead := 1 + int(c[2]%uint64(n-2))
		l = node(api.Seq+uint8(c[2]>>16%2), grown(c[0], ahead), grown(c[1], n-1-ahead))
	}
	if c[2]>>24%2 == 0 && l[0].Kind != api.Alt {
		l = guarded(ofAny(), l)
	}
	return l
}

// grownPatterns are patterns by noise that have an automaton, of up to 24 nodes, with windows of up to so many ticks.
func grownPatterns(n int, window uint64) []api.Pattern {
	var all []api.Pattern
	for seed := range uint64(n) {
		p := within(1+seed%window, asking(grown(seed, int(2+seed%23)), seed, questions()))
		if _, errno := auto.Compile(p); errno == api.OK {
			all = append(all, p)
		}
	}
	return all
}

// grownRow is a row of n events by noise, whose times go on by at most 2, and whose fields tell numbers and texts.
func grownRow(seed uint64, n int) []api.Logged {
	var all []api.Logged
	time := seed % 1000
	for _, c := range noise(seed, n) {
		l := logged(time, uint8(1+c>>8%3))
		for k := range c >> 16 % 3 {
			l.Event.Fields = append(l.Event.Fields, []api.Value{{}, whole(int64(c >> 20 % 10)), text("ab"[c>>24%3:])}[(k+c>>28)%3])
		}
		all = append(all, l)
		time += c >> 32 % 3
	}
	return all
}

// questions are questions of which some hold of events of the topics 1 to 3.
func questions() []api.Pred {
	return []api.Pred{
		asked(1), asked(2), asked(3), asked(1), asked(2), ofAny(), asked(1, has(0)), asked(2, above(0, 4)),
		ofAny(has(1)), ofAny(api.Test{Op: api.Begins, Value: text("a")}),
	}
}

// wrongEvents are events that may not be.
func wrongEvents() []api.Event {
	return []api.Event{
		{Topic: 1, Fields: make([]api.Value, 9)}, {Topic: 1, Fields: make([]api.Value, 300)},
		{Topic: 1, Fields: []api.Value{{Kind: 4}}}, {Topic: 2, Fields: []api.Value{{}, {Kind: 255}}},
		{Topic: 1, Fields: []api.Value{{Int: 1}}}, {Topic: 2, Fields: []api.Value{whole(1), {Kind: api.Text, Int: 1}}},
		{Topic: 1, Fields: []api.Value{text(strings.Repeat("a", 256))}},
	}
}

// toldPred is a question as a message tells it.
func toldPred(p api.Pred) string {
	s := fmt.Sprint(p.Topic)
	if p.Any {
		s = "any"
	}
	if len(p.Tests) > 0 {
		s += fmt.Sprint(p.Tests)
	}
	return s
}

// told is a pattern as a message tells it.
func told(p api.Pattern) string {
	s := fmt.Sprintf("window %d of", p.Window)
	for _, n := range p.Nodes {
		s += fmt.Sprintf(" (%d of %d", n.Kind, n.Size)
		if n.Kind == api.One {
			s += " asks " + toldPred(n.Pred)
		}
		if n.Hi > 0 {
			s += fmt.Sprintf(" %d to %d times", n.Lo, n.Hi)
		}
		if n.Guarded {
			s += " guarded by " + toldPred(n.Guard)
		}
		s += ")"
	}
	return s
}

// toldRow is a row of events as a message tells it.
func toldRow(l []api.Logged) string {
	s := fmt.Sprintf("%d events:", len(l))
	for _, e := range l[:min(len(l), 40)] {
		s += fmt.Sprintf(" %d%v at %d", e.Event.Topic, e.Event.Fields, e.At)
	}
	return s
}

// copiedPattern is a pattern in memory that no other one has.
func copiedPattern(p api.Pattern) api.Pattern {
	c := api.Pattern{Nodes: append(nodes{}, p.Nodes...), Window: p.Window}
	for i := range c.Nodes {
		c.Nodes[i].Pred.Tests = append([]api.Test{}, p.Nodes[i].Pred.Tests...)
		c.Nodes[i].Guard.Tests = append([]api.Test{}, p.Nodes[i].Guard.Tests...)
	}
	return c
}

// copiedState is a state in memory that no other one has.
func copiedState(s api.RunState) api.RunState {
	s.Runs = append([]api.Run{}, s.Runs...)
	return s
}

// sameState tells whether two states are the same.
func sameState(a, b api.RunState) bool {
	return a.Next == b.Next && a.Last == b.Last && a.Failed == b.Failed && a.FailedAt == b.FailedAt && slices.Equal(a.Runs, b.Runs)
}

// plainRun is a run, and at which edges it waits, one by one.
type plainRun struct {
	start, at uint64
	waits     map[int]bool
}

// plainEngine is the chapter's engine, clause by clause.
type plainEngine struct {
	a          api.Auto
	window     uint64
	next, last uint64
	failed     bool
	failedAt   uint64
	runs       []plainRun
}

// plainOf is the chapter's engine of a pattern that has an automaton, where a state that may be says.
func plainOf(t *testing.T, p api.Pattern, s api.RunState) *plainEngine {
	t.Helper()
	a, errno := auto.Compile(p)
	if errno != api.OK {
		t.Fatalf("Compile of %s = %v", told(p), errno)
	}
	e := &plainEngine{a: a, window: p.Window, next: s.Next, last: s.Last, failed: s.Failed, failedAt: s.FailedAt}
	for _, r := range s.Runs {
		one := plainRun{r.Start, r.At, map[int]bool{}}
		for k := range 64 {
			if r.Set&(1<<k) != 0 {
				one.waits[k] = true
			}
		}
		e.runs = append(e.runs, one)
	}
	return e
}

// feed is what Feed says.
func (e *plainEngine) feed(l api.Logged) ([]api.Match, api.Errno) {
	switch {
	case e.failed:
		return nil, api.ErrState
	case e.next == mostIndex:
		return nil, api.ErrRange
	case !event.May(l.Event), l.At < e.last, l.At > mostTime:
		return nil, api.ErrArg
	}
	n := e.next
	e.next, e.last = n+1, l.At
	var all []plainRun
	var matches []api.Match
	for _, r := range e.runs {
		if l.At > r.at+e.window {
			continue
		}
		matched := e.goOn(&r, l.Event)
		if matched {
			matches = append(matches, m(r.start, n))
		}
		if len(r.waits) > 0 {
			all = append(all, r)
		}
	}
	r := plainRun{n, l.At, map[int]bool{}}
	if e.begin(&r, l.Event) {
		matches = append(matches, m(n, n))
	}
	if len(r.waits) > 0 {
		all = append(all, r)
	}
	if len(all) > mostRuns {
		e.runs, e.failed, e.failedAt = nil, true, n
		return nil, api.ErrMany
	}
	e.runs = all
	return matches, api.OK
}

// goOn lets a run go on, and wait further, and tells whether there is a match.
func (e *plainEngine) goOn(r *plainRun, v api.Event) bool {
	matched, waits := false, map[int]bool{}
	for k := range r.waits {
		edge := e.a.Edges[k]
		if pred.Holds(e.a.Preds[edge.To], v) {
			matched = e.arrive(edge.To, waits) || matched
		}
		if !edge.Guarded || !pred.Holds(edge.Guard, v) {
			waits[k] = true
		}
	}
	r.waits = waits
	return matched
}

// begin lets a run begin, if it does, and tells whether there is a match.
func (e *plainEngine) begin(r *plainRun, v api.Event) bool {
	matched := false
	for place := range e.a.Preds {
		if e.a.First&(1<<place) != 0 && pred.Holds(e.a.Preds[place], v) {
			matched = e.arrive(uint8(place), r.waits) || matched
		}
	}
	return matched
}

// arrive waits at all edges from a place, and tells whether that is one of Last.
func (e *plainEngine) arrive(place uint8, waits map[int]bool) bool {
	for k, edge := range e.a.Edges {
		if edge.From == place {
			waits[k] = true
		}
	}
	return e.a.Last&(1<<place) != 0
}

// state is where it is.
func (e *plainEngine) state() api.RunState {
	s := api.RunState{Next: e.next, Last: e.last, Failed: e.failed, FailedAt: e.failedAt}
	for _, r := range e.runs {
		one := api.Run{Start: r.start, At: r.at}
		for k := range r.waits {
			one.Set |= 1 << k
		}
		s.Runs = append(s.Runs, one)
	}
	return s
}

// mayPlainly tells whether a state may be of a pattern with so many edges, clause by clause.
func mayPlainly(s api.RunState, window uint64, edges int) bool {
	if s.Next > mostIndex || s.Last > mostTime {
		return false
	}
	if s.Failed {
		return len(s.Runs) == 0 && s.FailedAt < s.Next
	}
	if s.FailedAt != 0 || len(s.Runs) > mostRuns {
		return false
	}
	start, at := int64(-1), uint64(0)
	for _, r := range s.Runs {
		if r.Start >= s.Next || int64(r.Start) <= start || r.At < at || r.At > s.Last || r.At+window < s.Last {
			return false
		}
		if edges < 64 && r.Set >= 1<<edges || r.Set == 0 {
			return false
		}
		start, at = int64(r.Start), r.At
	}
	return true
}

// held is an engine, and the chapter's beside it.
type held struct {
	t     *testing.T
	p     api.Pattern
	e     *runs.Engine
	plain *plainEngine
}

// begun is an engine that New made.
func begun(t *testing.T, p api.Pattern, next uint64) *held {
	t.Helper()
	e, errno := runs.New(p, next)
	if errno != api.OK || e == nil {
		t.Fatalf("New of %s, %d = %v", told(p), next, errno)
	}
	h := &held{t, p, e, plainOf(t, p, api.RunState{Next: next})}
	h.look()
	return h
}

// restored is an engine that Restore made.
func restored(t *testing.T, p api.Pattern, s api.RunState) *held {
	t.Helper()
	e, errno := runs.Restore(p, s)
	if errno != api.OK || e == nil {
		t.Fatalf("Restore of %s, %+v = %v", told(p), s, errno)
	}
	h := &held{t, p, e, plainOf(t, p, s)}
	h.look()
	return h
}

// feed feeds an event, wants what the chapter says, and answers the matches and the error.
func (h *held) feed(l api.Logged) ([]api.Match, api.Errno) {
	h.t.Helper()
	before := h.plain.state()
	want, wantErrno := h.plain.feed(l)
	got, errno := h.e.Feed(l)
	if errno != wantErrno || !slices.Equal(got, want) {
		h.t.Fatalf("%s at %+v: Feed of %s = %v, %v, want %v, %v", told(h.p), before, toldRow([]api.Logged{l}), got, errno, want, wantErrno)
	}
	h.look()
	return got, errno
}

// look wants of State, Failed, Next and Horizon what the chapter says.
func (h *held) look() {
	h.t.Helper()
	want := h.plain.state()
	if got := h.e.State(); !sameState(got, want) {
		h.t.Fatalf("%s: State = %+v, want %+v", told(h.p), got, want)
	}
	if at, failed := h.e.Failed(); at != want.FailedAt || failed != want.Failed {
		h.t.Fatalf("%s at %+v: Failed = %d, %v", told(h.p), want, at, failed)
	}
	horizon := want.Next
	for _, r := range want.Runs {
		horizon = min(horizon, r.Start)
	}
	if next, got := h.e.Next(), h.e.Horizon(); next != want.Next || got != horizon {
		h.t.Fatalf("%s at %+v: Next = %d, Horizon = %d", told(h.p), want, next, got)
	}
}

// fed wants of an event these matches.
func (h *held) fed(l api.Logged, want ...api.Match) {
	h.t.Helper()
	if got, errno := h.feed(l); errno != api.OK || !slices.Equal(got, want) {
		h.t.Fatalf("%s: Feed of %s = %v, %v, want %v", told(h.p), toldRow([]api.Logged{l}), got, errno, want)
	}
}

// refused wants of an event this error, and that nothing is changed.
func (h *held) refused(l api.Logged, want api.Errno) {
	h.t.Helper()
	before := h.e.State()
	if got, errno := h.feed(l); errno != want || len(got) != 0 || !sameState(before, h.e.State()) {
		h.t.Fatalf("%s at %+v: Feed of %s = %v, %v, want %v; now at %+v", told(h.p), before, toldRow([]api.Logged{l}), got, errno, want, h.e.State())
	}
}

// waits wants of the runs that they began with these events, and wait at these edges (as bits).
func (h *held) waits(want ...[2]uint64) {
	h.t.Helper()
	var got [][2]uint64
	for _, r := range h.e.State().Runs {
		got = append(got, [2]uint64{r.Start, r.Set})
	}
	if !slices.Equal(got, want) {
		h.t.Fatalf("%s: runs %v, want %v", told(h.p), got, want)
	}
}

// feedRow feeds a row, and answers all matches, up to the first error.
func (h *held) feedRow(l []api.Logged) ([]api.Match, api.Errno) {
	h.t.Helper()
	var all []api.Match
	for _, one := range l {
		matches, errno := h.feed(one)
		if errno != api.OK {
			return all, errno
		}
		all = append(all, matches...)
	}
	return all, api.OK
}
