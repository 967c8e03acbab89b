package group_test

import (
	"math"
	"reflect"
	"slices"
	"testing"

	"standby/api"
	"standby/group"
	"standby/history"
	"standby/image"
)

// random returns numbers from 0 to n - 1 that look random.
func random(seed uint32) func(n int) int {
	return func(n int) int {
		seed = seed*1664525 + 1013904223
		return int(seed>>8) % n
	}
}

func issue(write int) api.HistoryEvent {
	return api.HistoryEvent{Kind: api.EventIssue, Write: write}
}

func ack(write int) api.HistoryEvent {
	return api.HistoryEvent{Kind: api.EventAck, Write: write}
}

// write is the write of a number to volumes of the sizes 4 and 4: it overlaps others, and has contents of its own.
func write(number int) api.Write {
	w := api.Write{Volume: number % 2, Start: number % 3, Data: []api.Sector{{byte(number), byte(number >> 8), 1}}}
	if number%4 == 0 {
		w.Data = append(w.Data, api.Sector{byte(number), byte(number >> 8), 2})
	}
	return w
}

// of is the history with some events, and as many writes as these issue.
func of(events ...api.HistoryEvent) api.History {
	h := api.History{Sizes: []int{4, 4}, Events: events}
	for _, e := range events {
		if e.Kind == api.EventIssue {
			h.Writes = append(h.Writes, write(e.Write))
		}
	}
	return h
}

// histories are all correct histories of at most n writes.
func histories(n int) []api.History {
	var all []api.History
	var extend func(events []api.HistoryEvent, issued int)
	extend = func(events []api.HistoryEvent, issued int) {
		all = append(all, of(slices.Clone(events)...))
		if issued < n {
			extend(append(slices.Clip(events), issue(issued)), issued+1)
		}
		for w := range issued {
			if !slices.Contains(events, ack(w)) {
				extend(append(slices.Clip(events), ack(w)), issued)
			}
		}
	}
	extend(nil, 0)
	return all
}

// open are the writes of a history that are not acknowledged.
func open(h api.History) []int {
	var l []int
	for w := range h.Writes {
		if !slices.Contains(h.Events, ack(w)) {
			l = append(l, w)
		}
	}
	return l
}

// permutations are all orders of the elements of a list.
func permutations(l []int) [][]int {
	if len(l) == 0 {
		return [][]int{nil}
	}
	var all [][]int
	for i, x := range l {
		rest := slices.Concat(l[:i], l[i+1:])
		for _, p := range permutations(rest) {
			all = append(all, append([]int{x}, p...))
		}
	}
	return all
}

// groups are all correct groups with at most n writes.
func groups(n int) []api.Group {
	var all []api.Group
	for _, h := range histories(n) {
		l := open(h)
		all = append(all, api.Group{History: h, Waiting: l})
		for bits := range 1 << len(l) {
			var waiting, held []int
			for i, w := range l {
				if bits>>i&1 == 1 {
					held = append(held, w)
				} else {
					waiting = append(waiting, w)
				}
			}
			for _, order := range permutations(held) {
				all = append(all, api.Group{History: h, Waiting: waiting, Held: order, Frozen: true})
			}
		}
	}
	return all
}

func sameWrite(a, b api.Write) bool {
	return a.Volume == b.Volume && a.Start == b.Start && slices.Equal(a.Data, b.Data)
}

func same(a, b api.Group) bool {
	return slices.Equal(a.History.Sizes, b.History.Sizes) && slices.EqualFunc(a.History.Writes, b.History.Writes, sameWrite) && slices.Equal(a.History.Events, b.History.Events) &&
		slices.Equal(a.Waiting, b.Waiting) && slices.Equal(a.Held, b.Held) && a.Frozen == b.Frozen
}

// expect reports a group or an error that is not the wanted one; beside an error the group has to be empty.
func expect(t *testing.T, what string, got api.Group, err api.Errno, want api.Group, code api.Errno) {
	t.Helper()
	if code != api.OK {
		want = api.Group{}
	}
	if err != code || !same(got, want) {
		t.Errorf("%s: got %v, %d, want %v, %d", what, got, err, want, code)
	}
	if check := group.Check(got); err == api.OK && check != api.OK {
		t.Errorf("%s: Check: got %d", what, check)
	}
}

// expectAcks does the same for functions that also return the writes that are acknowledged.
func expectAcks(t *testing.T, what string, got api.Group, acks []int, err api.Errno, want api.Group, wanted []int, code api.Errno) {
	t.Helper()
	expect(t, what, got, err, want, code)
	if code != api.OK {
		wanted = nil
	}
	if !slices.Equal(acks, wanted) {
		t.Errorf("%s: got the acknowledgements %v, want %v", what, acks, wanted)
	}
}

// expectNumber does the same for functions that also return a number.
func expectNumber(t *testing.T, what string, got api.Group, number int, err api.Errno, want api.Group, wanted int, code api.Errno) {
	t.Helper()
	expect(t, what, got, err, want, code)
	if code != api.OK {
		wanted = 0
	}
	if number != wanted {
		t.Errorf("%s: got the number %d, want %d", what, number, wanted)
	}
}

// acknowledged is a history in which writes are acknowledged behind all events.
func acknowledged(t *testing.T, h api.History, writes ...int) api.History {
	t.Helper()
	for _, w := range writes {
		after, err := history.Ack(h, w)
		if err != api.OK {
			t.Fatalf("Ack: got %d", err)
		}
		h = after
	}
	return h
}

// wrongWrites are writes that do not fit the sizes 4 and 4, with the errors of image.Fits.
func wrongWrites() map[api.Errno][]api.Write {
	one := []api.Sector{{1}}
	return map[api.Errno][]api.Write{
		api.ErrNone:  {{Volume: 2, Data: one}, {Volume: -1, Data: one}, {Volume: math.MaxInt}, {Volume: math.MinInt, Start: -1}},
		api.ErrArg:   {{}, {Volume: 1}, {Start: -1}, {Volume: 1, Start: math.MaxInt, Data: []api.Sector{}}},
		api.ErrRange: {{Start: -1, Data: one}, {Start: 4, Data: one}, {Volume: 1, Start: 4, Data: one}, {Data: make([]api.Sector, 5)}, {Start: math.MaxInt, Data: one}, {Start: math.MinInt, Data: one}},
	}
}

// wrong is a group that is not correct, with the error of Check.
type wrong struct {
	g   api.Group
	err api.Errno
}

// wrongHistories are groups whose histories are not correct, with all kinds of other parts.
func wrongHistories() []wrong {
	var l []wrong
	add := func(h api.History) {
		for _, lists := range [][]int{nil, {0}, {0, 1}, {1, 0}, {-1}} {
			for _, frozen := range []bool{false, true} {
				l = append(l, wrong{api.Group{History: h, Waiting: lists, Frozen: frozen}, history.Check(h)}, wrong{api.Group{History: h, Held: lists, Frozen: frozen}, history.Check(h)})
			}
		}
	}
	add(api.History{})
	add(api.History{Sizes: slices.Repeat([]int{1}, 9)})
	add(api.History{Sizes: []int{0}})
	add(api.History{Sizes: []int{4, 4097}})
	add(api.History{Sizes: []int{4, 4}, Writes: make([]api.Write, api.MaxWrites+1)})
	for _, writes := range wrongWrites() {
		for _, w := range writes {
			h := of(issue(0), issue(1))
			h.Writes[1] = w
			add(h)
		}
	}
	for _, events := range [][]api.HistoryEvent{
		{}, {issue(0)}, {issue(1), issue(0)}, {issue(0), issue(0)}, {issue(0), issue(1), issue(2)}, {issue(0), issue(1), {Kind: 2}}, {issue(0), {Kind: -1}, issue(1)},
		{ack(0), issue(0), issue(1)}, {issue(0), ack(1), issue(1)}, {issue(0), issue(1), ack(2)}, {issue(0), ack(-1), issue(1)}, {issue(0), ack(0), issue(1), ack(0)}, {issue(0), issue(1), ack(math.MaxInt)},
	} {
		h := of(issue(0), issue(1))
		h.Events = events
		add(h)
	}
	return l
}

// code is the definition for a group with a correct history.
func code(g api.Group) api.Errno {
	for _, l := range [][]int{g.Waiting, g.Held} {
		for i, w := range l {
			if !slices.Contains(open(g.History), w) || slices.Contains(l[:i], w) {
				return api.ErrForm
			}
		}
	}
	for i := range g.Waiting {
		if i > 0 && g.Waiting[i] < g.Waiting[i-1] || slices.Contains(g.Held, g.Waiting[i]) {
			return api.ErrForm
		}
	}
	for _, w := range open(g.History) {
		if !slices.Contains(g.Waiting, w) && !slices.Contains(g.Held, w) {
			return api.ErrForm
		}
	}
	if len(g.Held) > 0 && !g.Frozen {
		return api.ErrState
	}
	return api.OK
}

// lists are all lists of at most n of some numbers.
func lists(n int, numbers ...int) [][]int {
	all := [][]int{nil}
	for last := all; n > 0; n-- {
		var next [][]int
		for _, l := range last {
			for _, x := range numbers {
				next = append(next, append(slices.Clip(l), x))
			}
		}
		all, last = append(all, next...), next
	}
	return all
}

// wrongLists are groups with correct histories, and other lists of at most three writes that are not correct.
func wrongLists() []wrong {
	var l []wrong
	for _, h := range histories(2) {
		for _, waiting := range lists(3, 0, 1, -1, 2) {
			for _, held := range lists(2, 0, 1, -1, 2) {
				for _, frozen := range []bool{false, true} {
					g := api.Group{History: h, Waiting: waiting, Held: held, Frozen: frozen}
					if err := code(g); err != api.OK {
						l = append(l, wrong{g, err})
					}
				}
			}
		}
	}
	three := of(issue(0), issue(1), issue(2))
	for _, waiting := range lists(3, 0, 1, 2) {
		for _, held := range lists(3, 0, 1, 2) {
			for _, frozen := range []bool{false, true} {
				g := api.Group{History: three, Waiting: waiting, Held: held, Frozen: frozen}
				if err := code(g); err != api.OK {
					l = append(l, wrong{g, err})
				}
			}
		}
	}
	for _, x := range []int{math.MinInt, math.MaxInt, 4096} {
		l = append(l, wrong{api.Group{History: three, Waiting: []int{0, 1, x}}, api.ErrForm}, wrong{api.Group{History: three, Waiting: []int{0, 1, 2}, Held: []int{x}}, api.ErrForm})
		l = append(l, wrong{api.Group{History: three, Waiting: []int{x, 0, 1, 2}, Frozen: true}, api.ErrForm}, wrong{api.Group{History: three, Held: []int{2, x, 0, 1}, Frozen: true}, api.ErrForm})
	}
	return l
}

func TestP201New(t *testing.T) {
	for _, sizes := range [][]int{{1}, {4, 3}, {4096}, {1, 2, 3, 4, 5, 6, 7, 8}, slices.Repeat([]int{4096}, 8)} {
		got, err := group.New(sizes)
		expect(t, "New", got, err, api.Group{History: api.History{Sizes: sizes}}, api.OK)
	}
	for _, c := range []struct {
		sizes []int
		err   api.Errno
	}{
		{nil, api.ErrMany}, {[]int{}, api.ErrMany}, {slices.Repeat([]int{1}, 9), api.ErrMany}, {slices.Repeat([]int{0}, 9), api.ErrMany},
		{[]int{0}, api.ErrRange}, {[]int{-1}, api.ErrRange}, {[]int{4097}, api.ErrRange}, {[]int{3, 0}, api.ErrRange}, {[]int{math.MaxInt}, api.ErrRange}, {[]int{1, math.MinInt}, api.ErrRange},
	} {
		got, err := group.New(c.sizes)
		expect(t, "New of wrong sizes", got, err, api.Group{}, c.err)
	}
}

func TestP201Check(t *testing.T) {
	for _, g := range groups(3) {
		if err := group.Check(g); err != api.OK {
			t.Errorf("Check of %v: got %d", g, err)
		}
	}
	states := 0
	for _, w := range append(wrongHistories(), wrongLists()...) {
		if err := group.Check(w.g); err != w.err {
			t.Errorf("Check of %v: got %d, want %d", w.g, err, w.err)
		}
		if w.err == api.ErrState {
			states++
		}
	}
	if states == 0 {
		t.Error("no group holds writes back without being frozen")
	}
}

func TestP201Issue(t *testing.T) {
	for _, g := range groups(3) {
		n := len(g.History.Writes)
		w := write(n + 5)
		h, _, err := history.Issue(g.History, w)
		if err != api.OK {
			t.Fatalf("history.Issue: got %d", err)
		}
		want := api.Group{History: h, Waiting: append(slices.Clone(g.Waiting), n), Held: g.Held, Frozen: g.Frozen}
		got, number, err := group.Issue(g, w)
		expectNumber(t, "Issue", got, number, err, want, n, api.OK)
	}
	for _, g := range groups(2) {
		for code, writes := range wrongWrites() {
			for _, w := range writes {
				got, number, err := group.Issue(g, w)
				expectNumber(t, "Issue of a wrong write", got, number, err, api.Group{}, 0, code)
			}
		}
	}
}

// without is a list without an element.
func without(l []int, x int) []int {
	return slices.DeleteFunc(slices.Clone(l), func(y int) bool { return x == y })
}

func TestP201Durable(t *testing.T) {
	for _, g := range groups(3) {
		for w := -1; w <= len(g.History.Writes); w++ {
			got, acks, err := group.Durable(g, w)
			if !slices.Contains(g.Waiting, w) {
				expectAcks(t, "Durable of a write that does not wait", got, acks, err, api.Group{}, nil, api.ErrNone)
				continue
			}
			want := g
			want.Waiting = without(g.Waiting, w)
			if g.Frozen {
				want.Held = append(slices.Clone(g.Held), w)
				expectAcks(t, "Durable in a frozen group", got, acks, err, want, nil, api.OK)
				continue
			}
			want.History = acknowledged(t, g.History, w)
			expectAcks(t, "Durable", got, acks, err, want, []int{w}, api.OK)
		}
		for _, w := range []int{math.MinInt, math.MaxInt, 4096} {
			got, acks, err := group.Durable(g, w)
			expectAcks(t, "Durable of no write", got, acks, err, api.Group{}, nil, api.ErrNone)
		}
	}
}

func TestP201Wrong(t *testing.T) {
	for _, w := range append(wrongHistories(), wrongLists()...) {
		for _, x := range []api.Write{write(1), {Volume: -1}} {
			got, number, err := group.Issue(w.g, x)
			expectNumber(t, "Issue in a wrong group", got, number, err, api.Group{}, 0, w.err)
		}
		for _, x := range []int{0, 1, -1} {
			got, acks, err := group.Durable(w.g, x)
			expectAcks(t, "Durable in a wrong group", got, acks, err, api.Group{}, nil, w.err)
		}
	}
}

func TestP202Freeze(t *testing.T) {
	for _, g := range groups(3) {
		got, position, err := group.Freeze(g)
		if g.Frozen {
			expectNumber(t, "Freeze of a frozen group", got, position, err, api.Group{}, 0, api.ErrBusy)
			continue
		}
		want := g
		want.Frozen = true
		expectNumber(t, "Freeze", got, position, err, want, len(g.History.Writes), api.OK)
	}
}

func TestP202Thaw(t *testing.T) {
	for _, g := range groups(3) {
		got, acks, err := group.Thaw(g)
		if !g.Frozen {
			expectAcks(t, "Thaw of a group that is not frozen", got, acks, err, api.Group{}, nil, api.ErrState)
			continue
		}
		want := api.Group{History: acknowledged(t, g.History, g.Held...), Waiting: g.Waiting}
		expectAcks(t, "Thaw", got, acks, err, want, g.Held, api.OK)
	}
}

// up are the numbers from 0 to n - 1.
func up(n int) []int {
	var l []int
	for i := range n {
		l = append(l, i)
	}
	return l
}

func TestP202Recover(t *testing.T) {
	for _, g := range groups(3) {
		n := len(g.History.Writes)
		for _, durable := range append(lists(3, 0, 1, 2, 3, -1), up(4), up(5), []int{math.MinInt}, []int{0, math.MaxInt}) {
			got, acks, err := group.Recover(g, durable)
			p := len(durable)
			lost := slices.ContainsFunc(up(n), func(w int) bool { return w >= p && slices.Contains(g.History.Events, ack(w)) })
			if p > n || !slices.Equal(durable, up(p)) || lost {
				expectAcks(t, "Recover of a wrong cut", got, acks, err, api.Group{}, nil, api.ErrCut)
				continue
			}
			h := api.History{Sizes: g.History.Sizes, Writes: g.History.Writes[:p]}
			for _, e := range g.History.Events {
				if e.Write < p {
					h.Events = append(h.Events, e)
				}
			}
			wanted := open(h)
			expectAcks(t, "Recover", got, acks, err, api.Group{History: acknowledged(t, h, wanted...)}, wanted, api.OK)
		}
	}
}

func TestP202Wrong(t *testing.T) {
	for _, w := range append(wrongHistories(), wrongLists()...) {
		got, position, err := group.Freeze(w.g)
		expectNumber(t, "Freeze of a wrong group", got, position, err, api.Group{}, 0, w.err)
		got, acks, err := group.Thaw(w.g)
		expectAcks(t, "Thaw of a wrong group", got, acks, err, api.Group{}, nil, w.err)
		for _, durable := range [][]int{nil, {0}, {0, 1}, {1}, {-1}} {
			got, acks, err := group.Recover(w.g, durable)
			expectAcks(t, "Recover of a wrong group", got, acks, err, api.Group{}, nil, w.err)
		}
	}
}

func TestP202Examples(t *testing.T) {
	g, _ := group.New([]int{4, 4})
	for n := range 3 {
		after, number, err := group.Issue(g, write(n))
		if number != n || err != api.OK {
			t.Fatalf("Issue: got %d, %d", number, err)
		}
		g = after
	}
	g, acks, err := group.Durable(g, 0)
	expectAcks(t, "0 becomes durable", g, acks, err, api.Group{History: of(issue(0), issue(1), issue(2), ack(0)), Waiting: []int{1, 2}}, []int{0}, api.OK)
	g, position, err := group.Freeze(g)
	if position != 3 || err != api.OK {
		t.Errorf("Freeze: got %d, %d", position, err)
	}
	g, acks, err = group.Durable(g, 1)
	expectAcks(t, "1 becomes durable", g, acks, err, api.Group{History: of(issue(0), issue(1), issue(2), ack(0)), Waiting: []int{2}, Held: []int{1}, Frozen: true}, nil, api.OK)
	g, _, _ = group.Issue(g, write(3))
	g, _, _ = group.Durable(g, 3)
	g, acks, err = group.Thaw(g)
	expectAcks(t, "Thaw", g, acks, err, api.Group{History: of(issue(0), issue(1), issue(2), ack(0), issue(3), ack(1), ack(3)), Waiting: []int{2}}, []int{1, 3}, api.OK)
	after, acks, err := group.Recover(g, up(4))
	expectAcks(t, "Recover", after, acks, err, api.Group{History: of(issue(0), issue(1), issue(2), ack(0), issue(3), ack(1), ack(3), ack(2))}, []int{2}, api.OK)
	after, acks, err = group.Recover(g, up(3))
	expectAcks(t, "Recover without 3", after, acks, err, api.Group{}, nil, api.ErrCut)
}

// most is a group with MaxWrites writes that wait.
func most(frozen bool) api.Group {
	g := api.Group{History: api.History{Sizes: []int{4, 4}}, Frozen: frozen}
	for n := range api.MaxWrites {
		g.History.Writes = append(g.History.Writes, write(n))
		g.History.Events = append(g.History.Events, issue(n))
		g.Waiting = append(g.Waiting, n)
	}
	return g
}

func TestP202Most(t *testing.T) {
	g := most(true)
	got, number, err := group.Issue(g, write(1))
	expectNumber(t, "Issue of too many writes", got, number, err, api.Group{}, 0, api.ErrMany)
	got, number, err = group.Issue(g, api.Write{})
	expectNumber(t, "Issue of too many wrong writes", got, number, err, api.Group{}, 0, api.ErrMany)
	got, acks, err := group.Durable(g, api.MaxWrites-1)
	if err != api.OK || len(acks) > 0 || len(got.Waiting) != api.MaxWrites-1 || !slices.Equal(got.Held, []int{api.MaxWrites - 1}) {
		t.Errorf("Durable of the last write: got %d, %v", err, acks)
	}
	g.Held, g.Waiting = g.Waiting, nil
	slices.Reverse(g.Held)
	got, acks, err = group.Thaw(g)
	var events []api.HistoryEvent
	for _, w := range g.Held {
		events = append(events, ack(w))
	}
	if err != api.OK || !slices.Equal(acks, g.Held) || !slices.Equal(got.History.Events, slices.Concat(g.History.Events, events)) {
		t.Errorf("Thaw: got %d", err)
	}
	got, acks, err = group.Recover(g, up(api.MaxWrites))
	if err != api.OK || !slices.Equal(acks, up(api.MaxWrites)) || group.Check(got) != api.OK {
		t.Errorf("Recover: got %d", err)
	}
	got, position, err := group.Freeze(most(false))
	if err != api.OK || position != api.MaxWrites || group.Check(got) != api.OK {
		t.Errorf("Freeze: got %d, %d", position, err)
	}
}

// run is a group with what has happened to it.
type run struct {
	g api.Group
	// acked are the writes that were acknowledged, as the functions say.
	acked []int
	// cuts are the positions at which the group was frozen.
	cuts []int
}

// expectRun reports a run whose group is not what its functions have said.
func expectRun(t *testing.T, r run) {
	t.Helper()
	if err := group.Check(r.g); err != api.OK {
		t.Fatalf("Check: got %d", err)
	}
	var events []int
	for _, e := range r.g.History.Events {
		if e.Kind == api.EventAck {
			events = append(events, e.Write)
		}
	}
	if !slices.Equal(events, r.acked) {
		t.Errorf("the writes %v are acknowledged in the history, and %v were returned", events, r.acked)
	}
	once := slices.Sorted(slices.Values(slices.Concat(r.g.Waiting, r.g.Held, events)))
	if !slices.Equal(once, up(len(r.g.History.Writes))) {
		t.Errorf("%d writes: %v wait, %v are held back, %v are acknowledged", len(r.g.History.Writes), r.g.Waiting, r.g.Held, events)
	}
	for _, position := range r.cuts {
		for b := range position {
			for a := position; a < len(r.g.History.Writes); a++ {
				if history.Before(r.g.History, a, b) {
					t.Errorf("write %d is before %d, behind the position %d", a, b, position)
				}
			}
		}
		if !history.Closed(r.g.History, up(position)) {
			t.Errorf("the first %d writes are no cut", position)
		}
	}
}

// crashed is the run behind a crash that some of the writes survive.
func (r run) crashed(t *testing.T, next func(int) int) run {
	t.Helper()
	n := len(r.g.History.Writes)
	least := 0
	for _, w := range r.acked {
		least = max(least, w+1)
	}
	durable := up(least + next(n-least+1))
	before, _ := history.Image(r.g.History, durable)
	after, acks, err := group.Recover(r.g, durable)
	if err != api.OK {
		t.Fatalf("Recover: got %d", err)
	}
	all := slices.Concat(r.acked, acks)
	if !slices.Equal(slices.Sorted(slices.Values(all)), durable) || after.Frozen || len(after.Waiting)+len(after.Held) > 0 {
		t.Errorf("Recover: got %v", after)
	}
	now, err := history.Image(after.History, durable)
	if err != api.OK || !image.Same(before, now) {
		t.Errorf("Recover changes the image to %v, %d", now, err)
	}
	cuts := slices.DeleteFunc(slices.Clone(r.cuts), func(position int) bool { return position > len(durable) })
	return run{after, all, cuts}
}

// step is the run behind one more step.
func (r run) step(t *testing.T, next func(int) int) run {
	t.Helper()
	var acks []int
	err := api.OK
	n := len(r.g.History.Writes)
	switch kind := next(20); {
	case kind < 8 && n < 40:
		r.g, _, err = group.Issue(r.g, write(n))
	case kind < 15 && len(r.g.Waiting) > 0:
		r.g, acks, err = group.Durable(r.g, r.g.Waiting[next(len(r.g.Waiting))])
	case kind < 18 && r.g.Frozen:
		r.g, acks, err = group.Thaw(r.g)
	case kind < 18:
		var position int
		r.g, position, err = group.Freeze(r.g)
		if position != n {
			t.Errorf("Freeze: got the position %d, want %d", position, n)
		}
		r.cuts = append(r.cuts, position)
	case kind == 18:
		r = r.crashed(t, next)
	}
	if err != api.OK {
		t.Fatalf("got %d", err)
	}
	r.acked = append(r.acked, acks...)
	return r
}

func TestP203(t *testing.T) {
	for seed := range 200 {
		next := random(uint32(seed))
		g, _ := group.New([]int{4, 4})
		r := run{g: g}
		for range 60 {
			frozen, before := r.g.Frozen, len(r.acked)
			r = r.step(t, next)
			if frozen && r.g.Frozen && len(r.acked) > before {
				t.Errorf("the writes %v are acknowledged in a frozen group", r.acked[before:])
			}
			if len(r.g.History.Writes) < 15 {
				expectRun(t, r)
			}
		}
		expectRun(t, r)
	}
}

// spoil changes everything that a value reaches, its spare capacity too.
func spoil(v reflect.Value) {
	switch v.Kind() {
	case reflect.Slice:
		for i := range v.Cap() {
			spoil(v.Slice(0, v.Cap()).Index(i))
		}
	case reflect.Array:
		for i := range v.Len() {
			spoil(v.Index(i))
		}
	case reflect.Struct:
		for i := range v.NumField() {
			spoil(v.Field(i))
		}
	case reflect.Int:
		v.SetInt(77)
	case reflect.Uint8:
		v.SetUint(77)
	}
}

// spare returns a copy of a list with one more element in its spare capacity.
func spare[T any](l []T, beyond T) []T {
	return append(slices.Clone(l), beyond)[:len(l)]
}

// whole returns everything that a list reaches, with its spare capacity.
func whole[T any](l []T) []T {
	return l[:cap(l)]
}

// arguments are what the functions are called with.
type arguments struct {
	frozen, free   api.Group
	w              api.Write
	sizes, durable []int
}

// padded is a group with elements in its spare capacity.
func padded(g api.Group) api.Group {
	for i, w := range g.History.Writes {
		g.History.Writes[i].Data = spare(w.Data, api.Sector{9})
	}
	g.History.Sizes, g.History.Writes, g.History.Events = spare(g.History.Sizes, 5), spare(g.History.Writes, write(7)), spare(g.History.Events, ack(9))
	g.Waiting, g.Held = spare(g.Waiting, 8), spare(g.Held, 7)
	return g
}

// values are arguments with elements in their spare capacity.
func values() arguments {
	events := []api.HistoryEvent{issue(0), issue(1), ack(0), issue(2), issue(3), issue(4), issue(5)}
	a := arguments{w: write(8), sizes: spare([]int{4, 4}, 3), durable: spare(up(4), 4)}
	a.w.Data = spare(a.w.Data, api.Sector{8})
	a.frozen = padded(api.Group{History: of(slices.Clone(events)...), Waiting: []int{1, 2, 5}, Held: []int{4, 3}, Frozen: true})
	a.free = padded(api.Group{History: of(slices.Clone(events)...), Waiting: []int{1, 2, 3, 4, 5}})
	return a
}

// everything lists what arguments reach.
func (a arguments) everything() []any {
	l := []any{whole(a.w.Data), whole(a.sizes), whole(a.durable)}
	for _, g := range []api.Group{a.frozen, a.free} {
		l = append(l, whole(g.History.Sizes), whole(g.History.Events), whole(g.Waiting), whole(g.Held))
		for _, w := range whole(g.History.Writes) {
			l = append(l, w.Volume, w.Start, whole(w.Data))
		}
	}
	return l
}

// results are what the functions make of their arguments.
func results(t *testing.T, a arguments) []any {
	t.Helper()
	var l []any
	add := func(g api.Group, acks []int, err api.Errno) {
		if err != api.OK {
			t.Fatalf("got %d", err)
		}
		l = append(l, &g, &acks)
	}
	count := func(g api.Group, _ int, err api.Errno) { add(g, nil, err) }
	g, err := group.New(a.sizes)
	add(g, nil, err)
	count(group.Issue(a.frozen, a.w))
	count(group.Issue(a.free, a.w))
	add(group.Durable(a.frozen, 2))
	add(group.Durable(a.free, 2))
	count(group.Freeze(a.free))
	add(group.Thaw(a.frozen))
	add(group.Recover(a.frozen, a.durable))
	add(group.Recover(a.free, a.durable))
	return l
}

// slicesOf returns all lists that a value reaches.
func slicesOf(v reflect.Value) []reflect.Value {
	var l []reflect.Value
	switch v.Kind() {
	case reflect.Slice:
		if v.Cap() > 0 {
			l = append(l, v)
		}
		for i := range v.Len() {
			l = append(l, slicesOf(v.Index(i))...)
		}
	case reflect.Struct:
		for i := range v.NumField() {
			l = append(l, slicesOf(v.Field(i))...)
		}
	}
	return l
}

// overlap reports whether two lists share memory.
func overlap(a, b reflect.Value) bool {
	size := func(v reflect.Value) uintptr { return uintptr(v.Cap()) * v.Type().Elem().Size() }
	return a.Pointer() < b.Pointer()+size(b) && b.Pointer() < a.Pointer()+size(a)
}

func TestValues(t *testing.T) {
	a := values()
	got := results(t, a)
	if !reflect.DeepEqual(a.everything(), values().everything()) {
		t.Error("the arguments are modified")
	}
	var all []reflect.Value
	for _, x := range got {
		all = append(all, slicesOf(reflect.ValueOf(x).Elem())...)
	}
	for i, v := range all {
		for _, w := range all[:i] {
			if overlap(v, w) {
				t.Errorf("two lists of the results share memory: %v, %v", v, w)
			}
		}
	}
	want := results(t, values())
	for _, argument := range []any{&a.frozen, &a.free, &a.w, &a.sizes, &a.durable} {
		spoil(reflect.ValueOf(argument).Elem())
	}
	if !reflect.DeepEqual(got, want) {
		t.Error("the results have changed with the arguments")
	}
	for i := range got {
		spoil(reflect.ValueOf(got[i]).Elem())
	}
	if again := results(t, values()); !reflect.DeepEqual(again, want) {
		t.Error("the results have changed with earlier ones")
	}
}
