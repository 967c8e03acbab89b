package cut_test

import (
	"math"
	"slices"
	"testing"

	"standby/api"
	"standby/cut"
	"standby/history"
)

// random returns numbers from 0 to n - 1 that look random.
func random(seed uint32) func(n int) int {
	return func(n int) int {
		seed = seed*1664525 + 1013904223
		return int(seed>>8) % n
	}
}

func issue(write int) api.HistoryEvent {
	return api.HistoryEvent{Kind: api.EventIssue, Write: write}
}

func ack(write int) api.HistoryEvent {
	return api.HistoryEvent{Kind: api.EventAck, Write: write}
}

// of is the history with some events, and as many writes as these issue.
func of(events ...api.HistoryEvent) api.History {
	h := api.History{Sizes: []int{2}, Events: events}
	for _, e := range events {
		if e.Kind == api.EventIssue {
			h.Writes = append(h.Writes, api.Write{Start: e.Write % 2, Data: []api.Sector{{byte(e.Write)}}})
		}
	}
	return h
}

// example is the history of the chapter's examples.
func example() api.History {
	return of(issue(0), issue(1), ack(0), issue(2), ack(2))
}

// concurrent is a history of n writes none of which is before another one.
func concurrent(n int) api.History {
	var events []api.HistoryEvent
	for w := range n {
		events = append(events, issue(w))
	}
	return of(events...)
}

// chain is a history of n writes, each of which is acknowledged before the next one is issued.
func chain(n int) api.History {
	var events []api.HistoryEvent
	for w := range n {
		events = append(events, issue(w), ack(w))
	}
	return of(events...)
}

// small are all correct histories of at most n writes.
func small(n int) []api.History {
	var all []api.History
	var extend func(events []api.HistoryEvent, issued int)
	extend = func(events []api.HistoryEvent, issued int) {
		all = append(all, of(slices.Clone(events)...))
		if issued < n {
			extend(append(slices.Clip(events), issue(issued)), issued+1)
		}
		for w := range issued {
			if !slices.Contains(events, ack(w)) {
				extend(append(slices.Clip(events), ack(w)), issued)
			}
		}
	}
	extend(nil, 0)
	return all
}

// randomHistory is a correct history of n writes.
func randomHistory(next func(int) int, n int) api.History {
	var events []api.HistoryEvent
	var open []int
	for issued := 0; issued < n || len(open) > 0 && next(4) > 0; {
		if i := len(open); i > 0 && (issued == n || next(2) == 0) {
			i = next(i)
			events = append(events, ack(open[i]))
			open = slices.Delete(open, i, i+1)
		} else {
			events = append(events, issue(issued))
			open = append(open, issued)
			issued++
		}
	}
	return of(events...)
}

// samples are correct histories of few writes.
func samples() []api.History {
	all := append(small(3), example(), concurrent(5), chain(5))
	next := random(16)
	for i := range 60 {
		all = append(all, randomHistory(next, 4+i%4))
	}
	return all
}

// set are the writes of a history of few writes whose bits are set.
func set(h api.History, bits int) []int {
	var l []int
	for w := range h.Writes {
		if bits>>w&1 == 1 {
			l = append(l, w)
		}
	}
	return l
}

// sets are all sets of the writes of a history of few writes.
func sets(h api.History) [][]int {
	var all [][]int
	for bits := range 1 << len(h.Writes) {
		all = append(all, set(h, bits))
	}
	return all
}

// first are the first n numbers.
func first(n int) []int {
	var l []int
	for w := range n {
		l = append(l, w)
	}
	return l
}

// without is a list without a number.
func without(l []int, w int) []int {
	return slices.DeleteFunc(slices.Clone(l), func(x int) bool { return x == w })
}

// noSets are lists that are no sets of writes of a history of n writes.
func noSets(n int) [][]int {
	l := [][]int{{-1}, {n}, {n + 1}, {math.MinInt}, {math.MaxInt}, {api.MaxWrites}, {-1, n}, {math.MaxInt, math.MinInt}}
	for w := range n {
		l = append(l, []int{w, w}, []int{-1, w}, []int{w, -1}, []int{w, n}, []int{n, w}, []int{w, math.MaxInt}, []int{math.MinInt, w})
	}
	for w := 1; w < n; w++ {
		l = append(l, []int{w, w - 1}, []int{w - 1, w, w}, []int{w - 1, w, w - 1})
	}
	return l
}

// before is the definition: the event that acknowledges a stands before the one that issues b.
func before(h api.History, a, b int) bool {
	acked := slices.Index(h.Events, ack(a))
	return acked >= 0 && acked < slices.Index(h.Events, issue(b))
}

// closed is the definition: with each write the set contains all writes that are before it.
func closed(h api.History, l []int) bool {
	for _, b := range l {
		for a := range h.Writes {
			if before(h, a, b) && !slices.Contains(l, a) {
				return false
			}
		}
	}
	return true
}

// cuts are those of a history of few writes.
func cuts(h api.History) [][]int {
	return slices.DeleteFunc(sets(h), func(l []int) bool { return !closed(h, l) })
}

// within reports whether all elements of a list are in another one.
func within(a, b []int) bool {
	return !slices.ContainsFunc(a, func(w int) bool { return !slices.Contains(b, w) })
}

// where are the writes of a history for which something holds.
func where(h api.History, holds func(w int) bool) []int {
	return slices.DeleteFunc(first(len(h.Writes)), func(w int) bool { return !holds(w) })
}

// expect reports a list or an error that is not the wanted one; beside an error the list has to be empty.
func expect(t *testing.T, what string, got []int, err api.Errno, want []int, code api.Errno) {
	t.Helper()
	if code != api.OK {
		want = nil
	}
	if err != code || !slices.Equal(got, want) {
		t.Errorf("%s: got %v, %d, want %v, %d", what, got, err, want, code)
	}
}

// expectAll does the same for lists of cuts.
func expectAll(t *testing.T, what string, got [][]int, err api.Errno, want [][]int, code api.Errno) {
	t.Helper()
	if code != api.OK {
		want = nil
	}
	if err != code || !slices.EqualFunc(got, want, slices.Equal[[]int]) {
		t.Errorf("%s: got %v, %d, want %v, %d", what, got, err, want, code)
	}
}

// expectAge does the same for losses.
func expectAge(t *testing.T, what string, got int, err api.Errno, want int, code api.Errno) {
	t.Helper()
	if code != api.OK {
		want = 0
	}
	if err != code || got != want {
		t.Errorf("%s: got %d, %d, want %d, %d", what, got, err, want, code)
	}
}

func TestP161Examples(t *testing.T) {
	h := example()
	got, err := cut.Least(h, []int{2})
	expect(t, "Least", got, err, []int{0, 2}, api.OK)
	got, err = cut.Greatest(h, []int{1, 2})
	expect(t, "Greatest", got, err, []int{1}, api.OK)
	got, err = cut.Frontier(h, []int{0, 1, 2})
	expect(t, "Frontier", got, err, []int{1, 2}, api.OK)
	loss, err := cut.Age(h, []int{1})
	expectAge(t, "Age of 1", loss, err, 2, api.OK)
	loss, err = cut.Age(h, []int{0, 2})
	expectAge(t, "Age of 0, 2", loss, err, 0, api.OK)
}

func TestP161Check(t *testing.T) {
	for _, h := range append(samples(), small(4)...) {
		for _, l := range sets(h) {
			want := api.OK
			if !closed(h, l) {
				want = api.ErrCut
			}
			if err := cut.Check(h, l); err != want {
				t.Errorf("Check(%v, %v): got %d, want %d", h.Events, l, err, want)
			}
		}
		for _, l := range noSets(len(h.Writes)) {
			if err := cut.Check(h, l); err != api.ErrRange {
				t.Errorf("Check(%v, %v): got %d", h.Events, l, err)
			}
		}
	}
	// A list that is no set is out of range, though it is not closed either.
	for _, l := range [][]int{{2, 2}, {2, 1}, {2, 3}, {-1, 2}} {
		if err := cut.Check(example(), l); err != api.ErrRange {
			t.Errorf("Check of %v: got %d", l, err)
		}
	}
}

func TestP161LeastAndGreatest(t *testing.T) {
	for _, h := range append(samples(), small(4)...) {
		// The set need not be closed.
		for _, l := range sets(h) {
			least := where(h, func(a int) bool {
				return slices.Contains(l, a) || slices.ContainsFunc(l, func(b int) bool { return before(h, a, b) })
			})
			got, err := cut.Least(h, l)
			expect(t, "Least", got, err, least, api.OK)
			greatest := where(h, func(b int) bool {
				return slices.Contains(l, b) && within(where(h, func(a int) bool { return before(h, a, b) }), l)
			})
			got, err = cut.Greatest(h, l)
			expect(t, "Greatest", got, err, greatest, api.OK)
		}
		for _, l := range noSets(len(h.Writes)) {
			got, err := cut.Least(h, l)
			expect(t, "Least of no set", got, err, nil, api.ErrRange)
			got, err = cut.Greatest(h, l)
			expect(t, "Greatest of no set", got, err, nil, api.ErrRange)
		}
	}
}

func TestP161JoinAndMeet(t *testing.T) {
	for _, h := range samples() {
		for _, a := range cuts(h) {
			for _, b := range cuts(h) {
				got, err := cut.Join(h, a, b)
				expect(t, "Join", got, err, where(h, func(w int) bool { return slices.Contains(a, w) || slices.Contains(b, w) }), api.OK)
				got, err = cut.Meet(h, a, b)
				expect(t, "Meet", got, err, where(h, func(w int) bool { return slices.Contains(a, w) && slices.Contains(b, w) }), api.OK)
			}
		}
	}
}

func TestP161JoinAndMeetErrors(t *testing.T) {
	h := example()
	both := func(a, b []int, code api.Errno) {
		t.Helper()
		got, err := cut.Join(h, a, b)
		expect(t, "Join", got, err, nil, code)
		got, err = cut.Meet(h, a, b)
		expect(t, "Meet", got, err, nil, code)
	}
	for _, open := range [][]int{{2}, {1, 2}} {
		for _, other := range sets(h) {
			both(open, other, api.ErrCut)
			both(other, open, api.ErrCut)
		}
		// That a list is no set comes before that the other one is not closed, wherever it stands.
		for _, l := range noSets(3) {
			both(open, l, api.ErrRange)
			both(l, open, api.ErrRange)
			both(l, nil, api.ErrRange)
			both([]int{0, 1, 2}, l, api.ErrRange)
			both(l, l, api.ErrRange)
		}
	}
}

func TestP161FrontierAndAge(t *testing.T) {
	for _, h := range append(samples(), small(4)...) {
		for _, l := range sets(h) {
			code := api.OK
			if !closed(h, l) {
				code = api.ErrCut
			}
			frontier := where(h, func(a int) bool {
				return slices.Contains(l, a) && !slices.ContainsFunc(l, func(b int) bool { return before(h, a, b) })
			})
			got, err := cut.Frontier(h, l)
			expect(t, "Frontier", got, err, frontier, code)
			lost := where(h, func(w int) bool { return slices.Contains(h.Events, ack(w)) && !slices.Contains(l, w) })
			loss, err := cut.Age(h, l)
			expectAge(t, "Age", loss, err, len(lost), code)
		}
		for _, l := range noSets(len(h.Writes)) {
			got, err := cut.Frontier(h, l)
			expect(t, "Frontier of no set", got, err, nil, api.ErrRange)
			loss, err := cut.Age(h, l)
			expectAge(t, "Age of no set", loss, err, 0, api.ErrRange)
		}
	}
}

// wrong is a history that is not correct, with the error of history.Check.
type wrong struct {
	h   api.History
	err api.Errno
}

func wrongHistories() []wrong {
	misfit := of(issue(0), issue(1))
	misfit.Writes[1].Volume = 1
	outside := of(issue(0), issue(1))
	outside.Writes[1].Start = 2
	return []wrong{
		{api.History{}, api.ErrMany},
		{api.History{Sizes: []int{0}}, api.ErrRange},
		{concurrent(api.MaxWrites + 1), api.ErrMany},
		{concurrent(2 * api.MaxWrites), api.ErrMany},
		{api.History{Sizes: []int{2}, Writes: make([]api.Write, 1), Events: []api.HistoryEvent{issue(0)}}, api.ErrArg},
		{misfit, api.ErrNone},
		{outside, api.ErrRange},
		{api.History{Sizes: []int{2}, Events: []api.HistoryEvent{{Kind: 2}}}, api.ErrForm},
		{api.History{Sizes: []int{2}, Events: []api.HistoryEvent{issue(0)}}, api.ErrForm},
		{api.History{Sizes: []int{2}, Events: []api.HistoryEvent{ack(-1)}}, api.ErrNone},
		{api.History{Sizes: []int{2}, Writes: of(issue(0)).Writes}, api.ErrForm},
		{of(issue(0), ack(1), issue(1)), api.ErrNone},
		{of(issue(0), ack(0), ack(0)), api.ErrTwice},
	}
}

func TestP161Wrong(t *testing.T) {
	for _, w := range wrongHistories() {
		// The history is checked before the lists.
		for _, l := range [][]int{nil, {0}, {0, 1}, {1}, {1, 0}, {-1}, {9000}, {math.MinInt}} {
			if err := cut.Check(w.h, l); err != w.err {
				t.Errorf("Check of %v and a wrong history: got %d, want %d", l, err, w.err)
			}
			got, err := cut.Least(w.h, l)
			expect(t, "Least for a wrong history", got, err, nil, w.err)
			got, err = cut.Greatest(w.h, l)
			expect(t, "Greatest for a wrong history", got, err, nil, w.err)
			got, err = cut.Join(w.h, l, []int{0})
			expect(t, "Join for a wrong history", got, err, nil, w.err)
			got, err = cut.Meet(w.h, nil, l)
			expect(t, "Meet for a wrong history", got, err, nil, w.err)
			got, err = cut.Frontier(w.h, l)
			expect(t, "Frontier for a wrong history", got, err, nil, w.err)
			loss, err := cut.Age(w.h, l)
			expectAge(t, "Age for a wrong history", loss, err, 0, w.err)
		}
	}
}

func TestP161Most(t *testing.T) {
	// Each write is acknowledged before the next one is issued, but for write 5.
	h := chain(api.MaxWrites)
	h.Events = slices.Delete(h.Events, 11, 12)
	whole := first(api.MaxWrites)
	got, err := cut.Least(h, []int{4095})
	expect(t, "Least", got, err, without(whole, 5), api.OK)
	got, err = cut.Greatest(h, without(whole, 5))
	expect(t, "Greatest without 5", got, err, without(whole, 5), api.OK)
	got, err = cut.Greatest(h, without(whole, 4000))
	expect(t, "Greatest without 4000", got, err, whole[:4000], api.OK)
	got, err = cut.Frontier(h, whole)
	expect(t, "Frontier", got, err, []int{5, 4095}, api.OK)
	got, err = cut.Join(h, whole[:6], without(whole, 5))
	expect(t, "Join", got, err, whole, api.OK)
	got, err = cut.Meet(h, whole[:6], without(whole, 5))
	expect(t, "Meet", got, err, whole[:5], api.OK)
	loss, err := cut.Age(h, whole[:6])
	expectAge(t, "Age", loss, err, 4090, api.OK)
	if err := cut.Check(h, without(whole, 6)); err != api.ErrCut {
		t.Errorf("Check: got %d", err)
	}
}

func TestP162Examples(t *testing.T) {
	want := [][]int{nil, {0}, {1}, {0, 1}, {0, 2}, {0, 1, 2}}
	for _, most := range []int{6, 7, api.MaxSteps} {
		got, err := cut.All(example(), most)
		expectAll(t, "All", got, err, want, api.OK)
	}
	for most := range 6 {
		got, err := cut.All(example(), most)
		expectAll(t, "All of more", got, err, nil, api.ErrMany)
	}
}

func TestP162All(t *testing.T) {
	next := random(2)
	histories := append(samples(), concurrent(8), chain(12))
	for n := range 11 {
		histories = append(histories, randomHistory(next, n))
	}
	for _, h := range histories {
		want := cuts(h)
		slices.SortFunc(want, func(a, b []int) int {
			if len(a) != len(b) {
				return len(a) - len(b)
			}
			return slices.Compare(a, b)
		})
		for _, most := range []int{len(want), len(want) + 1, api.MaxSteps} {
			got, err := cut.All(h, most)
			expectAll(t, "All", got, err, want, api.OK)
		}
		for _, most := range []int{0, 1, len(want) / 2, len(want) - 1} {
			if most < len(want) {
				got, err := cut.All(h, most)
				expectAll(t, "All of more", got, err, nil, api.ErrMany)
			}
		}
	}
}

func TestP162Errors(t *testing.T) {
	for _, most := range []int{math.MinInt, -1, api.MaxSteps + 1, math.MaxInt} {
		for _, h := range []api.History{example(), concurrent(0), concurrent(100)} {
			got, err := cut.All(h, most)
			expectAll(t, "All with a wrong bound", got, err, nil, api.ErrRange)
		}
		// The history is checked before the bound.
		for _, w := range wrongHistories() {
			got, err := cut.All(w.h, most)
			expectAll(t, "All for a wrong history", got, err, nil, w.err)
		}
	}
	for _, w := range wrongHistories() {
		for _, most := range []int{0, 1, api.MaxSteps} {
			got, err := cut.All(w.h, most)
			expectAll(t, "All for a wrong history", got, err, nil, w.err)
		}
	}
}

func TestP162Empty(t *testing.T) {
	got, err := cut.All(concurrent(0), 1)
	expectAll(t, "All without writes", got, err, [][]int{nil}, api.OK)
	got, err = cut.All(concurrent(0), 0)
	expectAll(t, "All without writes and room", got, err, nil, api.ErrMany)
}

func TestP162Most(t *testing.T) {
	// 12 writes have as many sets as All may return.
	for n, code := range map[int]api.Errno{12: api.OK, 13: api.ErrMany, 100: api.ErrMany, 4095: api.ErrMany, 4096: api.ErrMany} {
		got, err := cut.All(concurrent(n), api.MaxSteps)
		if err != code || code == api.OK && len(got) != 4096 || code != api.OK && len(got) > 0 {
			t.Errorf("All of %d writes without an order: got %d cuts, %d", n, len(got), err)
		}
	}
	got, err := cut.All(concurrent(12), api.MaxSteps-1)
	expectAll(t, "All of one more", got, err, nil, api.ErrMany)
	// In a chain the cuts are the first writes, any number of them.
	got, err = cut.All(chain(api.MaxWrites-1), api.MaxSteps)
	if err != api.OK || len(got) != api.MaxWrites {
		t.Fatalf("All of a chain: got %d cuts, %d", len(got), err)
	}
	for n, l := range got {
		if !slices.Equal(l, first(n)) {
			t.Fatalf("cut %d of a chain has %d writes", n, len(l))
		}
	}
	got, err = cut.All(chain(api.MaxWrites), api.MaxSteps)
	expectAll(t, "All of the longest chain", got, err, nil, api.ErrMany)
}

func TestP163LeastAndGreatest(t *testing.T) {
	for _, h := range samples() {
		all, _ := cut.All(h, api.MaxSteps)
		for _, l := range sets(h) {
			least, _ := cut.Least(h, l)
			greatest, _ := cut.Greatest(h, l)
			if cut.Check(h, least) != api.OK || cut.Check(h, greatest) != api.OK || !within(l, least) || !within(greatest, l) {
				t.Errorf("%v: around %v are %v and %v", h.Events, l, greatest, least)
			}
			for _, c := range all {
				if within(l, c) && !within(least, c) || within(c, l) && !within(c, greatest) {
					t.Errorf("%v: the cut %v and the set %v, with the cuts %v and %v", h.Events, c, l, greatest, least)
				}
			}
		}
	}
}

func TestP163Lattice(t *testing.T) {
	for _, h := range small(3) {
		all, _ := cut.All(h, api.MaxSteps)
		join := func(a, b []int) []int {
			c, err := cut.Join(h, a, b)
			if err != api.OK || cut.Check(h, c) != api.OK {
				t.Errorf("Join(%v, %v, %v): got %v, %d", h.Events, a, b, c, err)
			}
			return c
		}
		meet := func(a, b []int) []int {
			c, err := cut.Meet(h, a, b)
			if err != api.OK || cut.Check(h, c) != api.OK {
				t.Errorf("Meet(%v, %v, %v): got %v, %d", h.Events, a, b, c, err)
			}
			return c
		}
		for _, a := range all {
			for _, b := range all {
				if !slices.Equal(join(a, b), join(b, a)) || !slices.Equal(meet(a, b), meet(b, a)) || !slices.Equal(join(a, meet(a, b)), a) || !slices.Equal(meet(a, join(a, b)), a) {
					t.Errorf("%v: %v and %v are not in a lattice", h.Events, a, b)
				}
				for _, c := range all {
					if !slices.Equal(meet(a, join(b, c)), join(meet(a, b), meet(a, c))) || !slices.Equal(join(a, meet(b, c)), meet(join(a, b), join(a, c))) {
						t.Errorf("%v: %v, %v and %v are not distributive", h.Events, a, b, c)
					}
				}
			}
		}
	}
}

func TestP163Frontier(t *testing.T) {
	for _, h := range samples() {
		all, _ := cut.All(h, api.MaxSteps)
		for _, c := range all {
			frontier, err := cut.Frontier(h, c)
			if err != api.OK {
				t.Fatalf("Frontier(%v, %v): got %d", h.Events, c, err)
			}
			least, err := cut.Least(h, frontier)
			expect(t, "the least cut with a frontier", least, err, c, api.OK)
			for _, w := range frontier {
				if err := cut.Check(h, without(c, w)); err != api.OK {
					t.Errorf("%v: %v without %d of its frontier: got %d", h.Events, c, w, err)
				}
			}
		}
	}
}

func TestP163Prefixes(t *testing.T) {
	for _, h := range samples() {
		for n := range len(h.Writes) + 1 {
			if err := cut.Check(h, first(n)); err != api.OK {
				t.Errorf("%v: the first %d writes: got %d", h.Events, n, err)
			}
		}
		for n := range len(h.Events) + 1 {
			c := history.Acknowledged(h, n)
			if err := cut.Check(h, c); err != api.OK {
				t.Errorf("%v: what the first %d events acknowledge: got %d", h.Events, n, err)
			}
			later := 0
			for _, e := range h.Events[n:] {
				if e.Kind == api.EventAck {
					later++
				}
			}
			loss, err := cut.Age(h, c)
			expectAge(t, "the loss of what is acknowledged", loss, err, later, api.OK)
		}
	}
}

// results are what all functions make of two cuts of a history.
func results(h api.History, a, b []int) [][]int {
	least, _ := cut.Least(h, a)
	greatest, _ := cut.Greatest(h, a)
	join, _ := cut.Join(h, a, b)
	meet, _ := cut.Meet(h, a, b)
	frontier, _ := cut.Frontier(h, a)
	all, _ := cut.All(h, api.MaxSteps)
	cut.Check(h, a)
	cut.Age(h, a)
	return append(all, least, greatest, join, meet, frontier)
}

// spare returns a copy of a list with one more element in its spare capacity.
func spare[T any](l []T, beyond T) []T {
	return append(slices.Clone(l), beyond)[:len(l)]
}

func TestValues(t *testing.T) {
	for _, h := range samples() {
		events := h.Events
		h.Events = spare(events, ack(77))
		all := cuts(h)
		for i, x := range all {
			y := all[(i*3+1)%len(all)]
			want := results(h, x, y)
			a, b := spare(x, 77), spare(y, 77)
			got := results(h, a, b)
			if !slices.Equal(a[:len(x)+1], append(slices.Clone(x), 77)) || !slices.Equal(b[:len(y)+1], append(slices.Clone(y), 77)) {
				t.Fatalf("the arguments %v and %v are modified: %v, %v", x, y, a, b)
			}
			if !slices.Equal(h.Events[:len(events)+1], append(slices.Clone(events), ack(77))) {
				t.Fatalf("the events %v are modified: %v", events, h.Events)
			}
			for _, l := range [][]int{a, b} {
				for k := range l {
					l[k] = 88
				}
			}
			for k, l := range got {
				if !slices.Equal(l, want[k]) {
					t.Fatalf("result %d: got %v after a change of the arguments and of other results, want %v", k, l, want[k])
				}
				for n := range l[:cap(l)] {
					l[:cap(l)][n] = 99
				}
			}
		}
	}
}
