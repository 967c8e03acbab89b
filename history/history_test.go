package history_test

import (
	"math"
	"reflect"
	"slices"
	"testing"

	"standby/api"
	"standby/history"
	"standby/image"
)

// random returns numbers from 0 to n - 1 that look random.
func random(seed uint32) func(n int) int {
	return func(n int) int {
		seed = seed*1664525 + 1013904223
		return int(seed>>8) % n
	}
}

func issue(write int) api.HistoryEvent {
	return api.HistoryEvent{Kind: api.EventIssue, Write: write}
}

func ack(write int) api.HistoryEvent {
	return api.HistoryEvent{Kind: api.EventAck, Write: write}
}

// sizes are those of the histories of most tests.
func sizes() []int {
	return []int{4, 3}
}

// write is the write of a number: it fits the sizes, overlaps others, and has contents of its own.
func write(number int) api.Write {
	w := api.Write{Volume: number % 2, Start: number % 3}
	if w.Volume == 0 || w.Start == 0 {
		w.Data = append(w.Data, api.Sector{byte(number), byte(number >> 8), 1})
	}
	w.Data = append(w.Data, api.Sector{byte(number), byte(number >> 8), 2})
	return w
}

// writes are the first ones.
func writes(n int) []api.Write {
	var l []api.Write
	for number := range n {
		l = append(l, write(number))
	}
	return l
}

// of is the history with some events, and as many writes as these issue.
func of(events ...api.HistoryEvent) api.History {
	n := 0
	for _, e := range events {
		if e.Kind == api.EventIssue {
			n++
		}
	}
	return api.History{Sizes: sizes(), Writes: writes(n), Events: events}
}

// example is the history of the chapter's examples.
func example() api.History {
	return of(issue(0), issue(1), ack(0), issue(2))
}

// small are all correct histories of at most n writes.
func small(n int) []api.History {
	var all []api.History
	var extend func(events []api.HistoryEvent, issued int)
	extend = func(events []api.HistoryEvent, issued int) {
		all = append(all, of(slices.Clone(events)...))
		if issued < n {
			extend(append(slices.Clip(events), issue(issued)), issued+1)
		}
		for w := range issued {
			if !slices.Contains(events, ack(w)) {
				extend(append(slices.Clip(events), ack(w)), issued)
			}
		}
	}
	extend(nil, 0)
	return all
}

// randomHistory is a correct history of n writes.
func randomHistory(next func(int) int, n int) api.History {
	var events []api.HistoryEvent
	var open []int
	for issued := 0; issued < n; {
		if len(open) > 0 && next(2) == 0 {
			i := next(len(open))
			events = append(events, ack(open[i]))
			open = slices.Delete(open, i, i+1)
		} else {
			events = append(events, issue(issued))
			open = append(open, issued)
			issued++
		}
	}
	for len(open) > 0 && next(4) > 0 {
		i := next(len(open))
		events = append(events, ack(open[i]))
		open = slices.Delete(open, i, i+1)
	}
	return of(events...)
}

// samples are correct histories of all kinds.
func samples() []api.History {
	all := append(small(3), example(), api.History{Sizes: []int{1}})
	next := random(15)
	for n := range 30 {
		all = append(all, randomHistory(next, n))
	}
	return all
}

// subsets are all sets of the writes of a history of few writes.
func subsets(h api.History) [][]int {
	var all [][]int
	for bits := range 1 << len(h.Writes) {
		var set []int
		for w := range h.Writes {
			if bits>>w&1 == 1 {
				set = append(set, w)
			}
		}
		all = append(all, set)
	}
	return all
}

// randomSet is a set of writes of a history.
func randomSet(next func(int) int, h api.History) []int {
	var set []int
	for w := range h.Writes {
		if next(3) > 0 {
			set = append(set, w)
		}
	}
	return set
}

// setsOf are all sets of a history of few writes, or some of others.
func setsOf(next func(int) int, h api.History) [][]int {
	if len(h.Writes) <= 4 {
		return subsets(h)
	}
	all := [][]int{nil, all(h)}
	for range 20 {
		all = append(all, randomSet(next, h))
		all = append(all, closure(h, randomSet(next, h)))
	}
	return all
}

// all are the numbers of all writes of a history.
func all(h api.History) []int {
	var l []int
	for w := range h.Writes {
		l = append(l, w)
	}
	return l
}

// noSets are lists that are no sets of writes of a history of n writes.
func noSets(n int) [][]int {
	l := [][]int{{-1}, {n}, {n + 1}, {math.MinInt}, {math.MaxInt}, {-1, n}, {math.MinInt, math.MaxInt}, {math.MaxInt, math.MinInt}}
	for w := range n {
		l = append(l, []int{w, w}, []int{-1, w}, []int{w, -1}, []int{w, n}, []int{n, w}, []int{w, math.MaxInt}, []int{math.MinInt, w})
	}
	for w := 1; w < n; w++ {
		l = append(l, []int{w, w - 1}, []int{w - 1, w, w}, []int{w - 1, w - 1, w}, []int{w - 1, w, w - 1})
	}
	return l
}

// before is the definition: the event that acknowledges a stands before the one that issues b.
func before(h api.History, a, b int) bool {
	acked := slices.Index(h.Events, ack(a))
	return acked >= 0 && acked < slices.Index(h.Events, issue(b))
}

// closed is the definition: with each write the set contains all writes that are before it.
func closed(h api.History, set []int) bool {
	for _, b := range set {
		for a := range h.Writes {
			if before(h, a, b) && !slices.Contains(set, a) {
				return false
			}
		}
	}
	return true
}

// closure is a closed set that contains a set.
func closure(h api.History, set []int) []int {
	var l []int
	for a := range h.Writes {
		if slices.Contains(set, a) || slices.ContainsFunc(set, func(b int) bool { return before(h, a, b) }) {
			l = append(l, a)
		}
	}
	return l
}

func sameWrite(a, b api.Write) bool {
	return a.Volume == b.Volume && a.Start == b.Start && slices.Equal(a.Data, b.Data)
}

func same(a, b api.History) bool {
	return slices.Equal(a.Sizes, b.Sizes) && slices.EqualFunc(a.Writes, b.Writes, sameWrite) && slices.Equal(a.Events, b.Events)
}

// expect reports a history or an error that is not the wanted one; beside an error the history has to be empty.
func expect(t *testing.T, what string, got api.History, err api.Errno, want api.History, code api.Errno) {
	t.Helper()
	if code != api.OK {
		want = api.History{}
	}
	if err != code || !same(got, want) {
		t.Errorf("%s: got %v, %d, want %v, %d", what, got, err, want, code)
	}
}

// expectImage does the same for images.
func expectImage(t *testing.T, what string, got api.Image, err api.Errno, want api.Image, code api.Errno) {
	t.Helper()
	if code != api.OK {
		want = nil
	}
	if err != code || !image.Same(got, want) {
		t.Errorf("%s: got %v, %d, want %v, %d", what, got, err, want, code)
	}
}

// wrong is a history that is not correct, with the error of Check.
type wrong struct {
	h   api.History
	err api.Errno
}

// wrongWrites are writes that do not fit the sizes, with the errors of image.Fits.
func wrongWrites() map[api.Errno][]api.Write {
	one := []api.Sector{{1}}
	return map[api.Errno][]api.Write{
		api.ErrNone:  {{Volume: 2, Data: one}, {Volume: -1, Data: one}, {Volume: math.MaxInt}, {Volume: math.MinInt, Start: -1}},
		api.ErrArg:   {{}, {Volume: 1}, {Start: -1}, {Volume: 1, Start: math.MaxInt, Data: []api.Sector{}}},
		api.ErrRange: {{Start: -1, Data: one}, {Start: 4, Data: one}, {Volume: 1, Start: 3, Data: one}, {Data: make([]api.Sector, 5)}, {Start: math.MaxInt, Data: one}, {Start: math.MinInt, Data: one}},
	}
}

func wrongHistories() []wrong {
	four := of(issue(0), issue(1), issue(2), issue(3))
	l := []wrong{
		{api.History{}, api.ErrMany},
		{api.History{Sizes: []int{1, 1, 1, 1, 1, 1, 1, 1, 1}}, api.ErrMany},
		{api.History{Sizes: []int{0}}, api.ErrRange},
		{api.History{Sizes: []int{4, -1}}, api.ErrRange},
		{api.History{Sizes: []int{4097}}, api.ErrRange},
		{api.History{Sizes: []int{math.MaxInt, math.MinInt}}, api.ErrRange},
		// The sizes are checked before the number of writes, this before the writes, and these before the events.
		{api.History{Writes: make([]api.Write, 4097), Events: []api.HistoryEvent{{Kind: 2}}}, api.ErrMany},
		{api.History{Sizes: []int{0}, Writes: make([]api.Write, 4097), Events: []api.HistoryEvent{{Kind: 2}}}, api.ErrRange},
		{api.History{Sizes: sizes(), Writes: make([]api.Write, 4097), Events: []api.HistoryEvent{{Kind: 2}}}, api.ErrMany},
		{api.History{Sizes: sizes(), Writes: writes(4097), Events: issues(4097)}, api.ErrMany},
		{api.History{Sizes: sizes(), Writes: writes(5000)}, api.ErrMany},
		{api.History{Sizes: sizes(), Writes: make([]api.Write, 1), Events: []api.HistoryEvent{ack(0)}}, api.ErrArg},
		{api.History{Sizes: []int{4}, Writes: writes(2), Events: four.Events[:2]}, api.ErrNone},
		{api.History{Sizes: []int{1}, Writes: writes(1), Events: four.Events[:1]}, api.ErrRange},
		// The first write with an error decides.
		{api.History{Sizes: sizes(), Writes: []api.Write{write(0), {Volume: 5}, {}}, Events: four.Events[:3]}, api.ErrNone},
		{api.History{Sizes: sizes(), Writes: []api.Write{write(0), {}, {Volume: 5}}, Events: four.Events[:3]}, api.ErrArg},
	}
	for err, ws := range wrongWrites() {
		for _, w := range ws {
			for n := range 3 {
				h := of(issue(0), issue(1), issue(2))
				h.Writes[n] = w
				l = append(l, wrong{h, err})
			}
		}
	}
	for _, e := range wrongEvents() {
		l = append(l, wrong{api.History{Sizes: sizes(), Writes: writes(e.writes), Events: e.events}, e.err})
	}
	return l
}

// issues are the events that issue n writes.
func issues(n int) []api.HistoryEvent {
	var l []api.HistoryEvent
	for w := range n {
		l = append(l, issue(w))
	}
	return l
}

// wrongEvents are events that are not correct for a number of writes.
func wrongEvents() []struct {
	writes int
	events []api.HistoryEvent
	err    api.Errno
} {
	type events = []api.HistoryEvent
	return []struct {
		writes int
		events events
		err    api.Errno
	}{
		{0, events{{Kind: 2}}, api.ErrForm},
		{0, events{{Kind: -1}}, api.ErrForm},
		{1, events{issue(0), {Kind: 2}}, api.ErrForm},
		{1, events{issue(0), {Kind: math.MaxInt, Write: -1}}, api.ErrForm},
		{1, events{{Kind: math.MinInt, Write: 9}, issue(0)}, api.ErrForm},
		// Writes are issued in the order of their numbers, each once.
		{0, events{issue(0)}, api.ErrForm},
		{1, events{issue(1)}, api.ErrForm},
		{1, events{issue(-1), issue(0)}, api.ErrForm},
		{1, events{issue(0), issue(0)}, api.ErrForm},
		{1, events{issue(0), issue(1)}, api.ErrForm},
		{2, events{issue(1), issue(0)}, api.ErrForm},
		{2, events{issue(0), issue(0), issue(1)}, api.ErrForm},
		{2, events{issue(0), issue(1), issue(1)}, api.ErrForm},
		{2, events{issue(0), issue(1), issue(0)}, api.ErrForm},
		{3, events{issue(0), issue(2), issue(1)}, api.ErrForm},
		{1, events{issue(math.MaxInt)}, api.ErrForm},
		{1, events{issue(math.MinInt)}, api.ErrForm},
		// Only what was issued is acknowledged, and once.
		{0, events{ack(0)}, api.ErrNone},
		{1, events{ack(0), issue(0)}, api.ErrNone},
		{1, events{issue(0), ack(1)}, api.ErrNone},
		{1, events{issue(0), ack(-1)}, api.ErrNone},
		{1, events{issue(0), ack(math.MaxInt)}, api.ErrNone},
		{1, events{issue(0), ack(math.MinInt)}, api.ErrNone},
		{2, events{issue(0), ack(1), issue(1)}, api.ErrNone},
		{1, events{issue(0), ack(0), ack(0)}, api.ErrTwice},
		{2, events{issue(0), ack(0), issue(1), ack(1), ack(0)}, api.ErrTwice},
		{2, events{issue(0), issue(1), ack(1), ack(1), ack(0)}, api.ErrTwice},
		// All writes are issued.
		{1, nil, api.ErrForm},
		{2, events{issue(0)}, api.ErrForm},
		{2, events{issue(0), ack(0)}, api.ErrForm},
		{3, events{issue(0), issue(1), ack(1)}, api.ErrForm},
		// The first event with an error decides, and any of them before a write that is not issued.
		{1, events{issue(0), ack(1), {Kind: 2}}, api.ErrNone},
		{1, events{issue(0), {Kind: 2}, ack(1)}, api.ErrForm},
		{1, events{issue(0), ack(0), ack(0), ack(1)}, api.ErrTwice},
		{1, events{issue(0), ack(0), ack(1), ack(0)}, api.ErrNone},
		{2, events{issue(0), ack(0), issue(0), ack(0)}, api.ErrForm},
		{2, events{issue(0), ack(1)}, api.ErrNone},
		{2, events{issue(0), ack(0), ack(0)}, api.ErrTwice},
	}
}

func TestP151New(t *testing.T) {
	for _, sizes := range [][]int{{1}, {4, 3}, {4096}, {1, 2, 3, 4, 5, 6, 7, 8}, slices.Repeat([]int{4096}, 8)} {
		got, err := history.New(sizes)
		expect(t, "New", got, err, api.History{Sizes: sizes}, api.OK)
		if err := history.Check(got); err != api.OK {
			t.Errorf("Check of the new history with the sizes %v: got %d", sizes, err)
		}
	}
	for _, c := range []struct {
		sizes []int
		err   api.Errno
	}{
		{nil, api.ErrMany}, {[]int{}, api.ErrMany}, {slices.Repeat([]int{1}, 9), api.ErrMany}, {slices.Repeat([]int{0}, 9), api.ErrMany},
		{[]int{0}, api.ErrRange}, {[]int{-1}, api.ErrRange}, {[]int{4097}, api.ErrRange}, {[]int{3, 0}, api.ErrRange}, {[]int{math.MaxInt}, api.ErrRange}, {[]int{1, math.MinInt}, api.ErrRange},
	} {
		got, err := history.New(c.sizes)
		expect(t, "New of wrong sizes", got, err, api.History{}, c.err)
	}
}

func TestP151Check(t *testing.T) {
	for _, h := range append(samples(), small(4)...) {
		if err := history.Check(h); err != api.OK {
			t.Errorf("Check of %v: got %d", h, err)
		}
	}
	for _, w := range wrongHistories() {
		if err := history.Check(w.h); err != w.err {
			t.Errorf("Check of a history with the sizes %v, %d writes and the events %v: got %d, want %d", w.h.Sizes, len(w.h.Writes), w.h.Events, err, w.err)
		}
	}
}

// eventError is the error of the first wrong event by the definition: each event is compared with those before it.
func eventError(n int, events []api.HistoryEvent) api.Errno {
	issued := 0
	for i, e := range events {
		switch {
		case e.Kind != api.EventIssue && e.Kind != api.EventAck:
			return api.ErrForm
		case e.Kind == api.EventIssue && (issued == n || e.Write != issued):
			return api.ErrForm
		case e.Kind == api.EventIssue:
			issued++
		case !slices.Contains(events[:i], issue(e.Write)):
			return api.ErrNone
		case slices.Contains(events[:i], e):
			return api.ErrTwice
		}
	}
	if issued < n {
		return api.ErrForm
	}
	return api.OK
}

func TestP151CheckSmall(t *testing.T) {
	var kinds []api.HistoryEvent
	for kind := -1; kind <= 2; kind++ {
		for w := -1; w <= 2; w++ {
			kinds = append(kinds, api.HistoryEvent{Kind: kind, Write: w})
		}
	}
	var try func(events []api.HistoryEvent)
	try = func(events []api.HistoryEvent) {
		for n := range 3 {
			h := api.History{Sizes: sizes(), Writes: writes(n), Events: events}
			if err, want := history.Check(h), eventError(n, events); err != want {
				t.Errorf("Check of %d writes and the events %v: got %d, want %d", n, events, err, want)
			}
		}
		if len(events) < 4 {
			for _, e := range kinds {
				try(append(slices.Clip(events), e))
			}
		}
	}
	try(nil)
}

func TestP151Issue(t *testing.T) {
	for _, h := range samples() {
		if len(h.Sizes) < 2 {
			continue
		}
		w := write(len(h.Writes) + 7)
		want := api.History{Sizes: h.Sizes, Writes: slices.Concat(h.Writes, []api.Write{w}), Events: slices.Concat(h.Events, []api.HistoryEvent{issue(len(h.Writes))})}
		got, number, err := history.Issue(h, w)
		expect(t, "Issue", got, err, want, api.OK)
		if number != len(h.Writes) {
			t.Errorf("Issue: got the number %d, want %d", number, len(h.Writes))
		}
		for code, ws := range wrongWrites() {
			for _, w := range ws {
				got, number, err := history.Issue(h, w)
				expect(t, "Issue of a wrong write", got, err, api.History{}, code)
				if number != 0 {
					t.Errorf("Issue of a wrong write: got the number %d", number)
				}
			}
		}
	}
}

func TestP151Ack(t *testing.T) {
	for _, h := range samples() {
		for _, w := range []int{math.MinInt, -1, len(h.Writes), len(h.Writes) + 1, math.MaxInt} {
			got, err := history.Ack(h, w)
			expect(t, "Ack of no write", got, err, api.History{}, api.ErrNone)
		}
		for w := range h.Writes {
			got, err := history.Ack(h, w)
			if slices.Contains(h.Events, ack(w)) {
				expect(t, "Ack of an acknowledged write", got, err, api.History{}, api.ErrTwice)
				continue
			}
			want := api.History{Sizes: h.Sizes, Writes: h.Writes, Events: slices.Concat(h.Events, []api.HistoryEvent{ack(w)})}
			expect(t, "Ack", got, err, want, api.OK)
		}
	}
}

func TestP151Wrong(t *testing.T) {
	for _, w := range wrongHistories() {
		// The history is checked before the other argument.
		for _, x := range []api.Write{write(0), {}, {Volume: 9}} {
			got, number, err := history.Issue(w.h, x)
			expect(t, "Issue for a wrong history", got, err, api.History{}, w.err)
			if number != 0 {
				t.Errorf("Issue for a wrong history: got the number %d", number)
			}
		}
		for _, x := range []int{-1, 0, 1, 5000} {
			got, err := history.Ack(w.h, x)
			expect(t, "Ack for a wrong history", got, err, api.History{}, w.err)
		}
	}
}

func TestP151Most(t *testing.T) {
	h := api.History{Sizes: sizes(), Writes: writes(api.MaxWrites - 1), Events: issues(api.MaxWrites - 1)}
	full, number, err := history.Issue(h, write(api.MaxWrites-1))
	expect(t, "Issue of the last write", full, err, api.History{Sizes: sizes(), Writes: writes(api.MaxWrites), Events: issues(api.MaxWrites)}, api.OK)
	if number != api.MaxWrites-1 {
		t.Errorf("Issue of the last write: got the number %d", number)
	}
	// There is no room for a write, whether it fits or not.
	for _, w := range []api.Write{write(0), {}, {Volume: 9}} {
		got, number, err := history.Issue(full, w)
		expect(t, "Issue of too many", got, err, api.History{}, api.ErrMany)
		if number != 0 {
			t.Errorf("Issue of too many: got the number %d", number)
		}
	}
	want := api.History{Sizes: sizes(), Writes: full.Writes, Events: slices.Concat(full.Events, []api.HistoryEvent{ack(api.MaxWrites - 1)})}
	got, err := history.Ack(full, api.MaxWrites-1)
	expect(t, "Ack of the last write", got, err, want, api.OK)
	for i := range got.Writes[:api.MaxWrites-1] {
		got.Events = append(got.Events, ack(i))
	}
	if err := history.Check(got); err != api.OK {
		t.Errorf("Check of %d events: got %d", len(got.Events), err)
	}
	got.Events = append(got.Events, ack(0))
	if err := history.Check(got); err != api.ErrTwice {
		t.Errorf("Check of %d events: got %d", len(got.Events), err)
	}
}

func TestP152Examples(t *testing.T) {
	h := example()
	for a := range 3 {
		for b := range 3 {
			if got := history.Before(h, a, b); got != (a == 0 && b == 2) {
				t.Errorf("Before(%d, %d): got %v", a, b, got)
			}
		}
	}
	for _, set := range subsets(h) {
		want := !slices.Contains(set, 2) || slices.Contains(set, 0)
		if got := history.Closed(h, set); got != want {
			t.Errorf("Closed(%v): got %v", set, got)
		}
	}
	got, err := history.Restrict(h, []int{0, 2})
	want := api.History{Sizes: h.Sizes, Writes: []api.Write{write(0), write(2)}, Events: []api.HistoryEvent{issue(0), ack(0), issue(1)}}
	expect(t, "Restrict to 0, 2", got, err, want, api.OK)
	got, err = history.Restrict(h, []int{1, 2})
	expect(t, "Restrict to 1, 2", got, err, api.History{}, api.ErrCut)
}

func TestP152Before(t *testing.T) {
	for _, h := range samples() {
		n := len(h.Writes)
		for a := range n {
			for b := range n {
				if got := history.Before(h, a, b); got != before(h, a, b) {
					t.Errorf("Before(%v, %d, %d): got %v", h.Events, a, b, got)
				}
			}
			for _, none := range []int{math.MinInt, -1, n, n + 1, math.MaxInt} {
				if history.Before(h, a, none) || history.Before(h, none, a) || history.Before(h, none, none) {
					t.Errorf("Before of %d and %d of %d writes: got true", a, none, n)
				}
			}
		}
	}
}

func TestP152Closed(t *testing.T) {
	next := random(1)
	for _, h := range append(samples(), small(4)...) {
		for _, set := range setsOf(next, h) {
			if got := history.Closed(h, set); got != closed(h, set) {
				t.Errorf("Closed(%v, %v): got %v", h.Events, set, got)
			}
		}
		for _, l := range noSets(len(h.Writes)) {
			if history.Closed(h, l) {
				t.Errorf("Closed(%v, %v): got true", h.Events, l)
			}
		}
	}
	if !history.Closed(api.History{Sizes: sizes()}, []int{}) {
		t.Error("Closed of no writes: got false")
	}
}

func TestP152Acknowledged(t *testing.T) {
	for _, h := range samples() {
		for _, n := range []int{math.MinInt, -2, -1, 0, 1, 2, 3, 4, 5, 6, 9, 20, len(h.Events) - 1, len(h.Events), len(h.Events) + 1, 9000, math.MaxInt} {
			var want []int
			for w := range h.Writes {
				if slices.Contains(h.Events[:min(max(n, 0), len(h.Events))], ack(w)) {
					want = append(want, w)
				}
			}
			if got := history.Acknowledged(h, n); !slices.Equal(got, want) {
				t.Errorf("Acknowledged(%v, %d): got %v, want %v", h.Events, n, got, want)
			}
		}
	}
}

// picture is the image of a set by the definition: each sector has the content of the last write of the set to it.
func picture(h api.History, set []int) api.Image {
	var im api.Image
	for v, size := range h.Sizes {
		volume := make([]api.Sector, size)
		for i := range volume {
			for n, w := range h.Writes {
				if slices.Contains(set, n) && w.Volume == v && w.Start <= i && i < w.Start+len(w.Data) {
					volume[i] = w.Data[i-w.Start]
				}
			}
		}
		im = append(im, volume)
	}
	return im
}

func TestP152Image(t *testing.T) {
	next := random(2)
	for _, h := range samples() {
		// The set need not be closed.
		for _, set := range setsOf(next, h) {
			got, err := history.Image(h, set)
			expectImage(t, "Image", got, err, picture(h, set), api.OK)
		}
		for _, l := range noSets(len(h.Writes)) {
			got, err := history.Image(h, l)
			expectImage(t, "Image of no set", got, err, nil, api.ErrRange)
		}
	}
}

// restricted is the history of a set by the definition.
func restricted(h api.History, set []int) api.History {
	part := api.History{Sizes: h.Sizes}
	for _, w := range set {
		part.Writes = append(part.Writes, h.Writes[w])
	}
	for _, e := range h.Events {
		for number, w := range set {
			if w == e.Write {
				part.Events = append(part.Events, api.HistoryEvent{Kind: e.Kind, Write: number})
			}
		}
	}
	return part
}

func TestP152Restrict(t *testing.T) {
	next := random(3)
	for _, h := range samples() {
		for _, set := range setsOf(next, h) {
			code := api.OK
			if !closed(h, set) {
				code = api.ErrCut
			}
			got, err := history.Restrict(h, set)
			expect(t, "Restrict", got, err, restricted(h, set), code)
		}
		for _, l := range noSets(len(h.Writes)) {
			got, err := history.Restrict(h, l)
			expect(t, "Restrict to no set", got, err, api.History{}, api.ErrRange)
		}
	}
	// A list that is no set is out of range, though it is not closed either.
	for _, l := range [][]int{{1, 2, 2}, {2, 1}, {2, 3}, {-1, 2}} {
		got, err := history.Restrict(example(), l)
		expect(t, "Restrict to no set", got, err, api.History{}, api.ErrRange)
	}
}

func TestP152Wrong(t *testing.T) {
	for _, w := range wrongHistories() {
		for a := range 3 {
			for b := range 3 {
				if history.Before(w.h, a, b) {
					t.Errorf("Before for a wrong history: got true")
				}
			}
		}
		for _, n := range []int{-1, 0, 2, 9000} {
			if got := history.Acknowledged(w.h, n); len(got) > 0 {
				t.Errorf("Acknowledged for a wrong history: got %v", got)
			}
		}
		// The history is checked before the set.
		for _, set := range [][]int{nil, {0}, {0, 1}, {1}, {-1}, {1, 0}, {9000}} {
			if history.Closed(w.h, set) {
				t.Errorf("Closed for a wrong history: got true")
			}
			im, err := history.Image(w.h, set)
			expectImage(t, "Image for a wrong history", im, err, nil, w.err)
			part, err := history.Restrict(w.h, set)
			expect(t, "Restrict for a wrong history", part, err, api.History{}, w.err)
		}
	}
}

func TestP152Most(t *testing.T) {
	// Each write is acknowledged before the next one is issued, but for write 1.
	h := api.History{Sizes: sizes(), Writes: writes(api.MaxWrites)}
	for w := range h.Writes {
		h.Events = append(h.Events, issue(w))
		if w != 1 {
			h.Events = append(h.Events, ack(w))
		}
	}
	whole := all(h)
	without := slices.Delete(slices.Clone(whole), 1, 2)
	if !history.Closed(h, whole) || !history.Closed(h, without) || history.Closed(h, slices.Delete(slices.Clone(whole), 2, 3)) || history.Closed(h, whole[1:]) {
		t.Error("Closed of most writes: got another result")
	}
	if history.Before(h, 1, 4095) || !history.Before(h, 0, 4095) || !history.Before(h, 4094, 4095) || history.Before(h, 4095, 4094) {
		t.Error("Before of most writes: got another result")
	}
	if got := history.Acknowledged(h, len(h.Events)); !slices.Equal(got, without) {
		t.Errorf("Acknowledged: got %d writes", len(got))
	}
	im, err := history.Image(h, without)
	expectImage(t, "Image of most writes", im, err, picture(h, without[4000:]), api.OK)
	part, err := history.Restrict(h, without)
	want := api.History{Sizes: h.Sizes, Writes: slices.Delete(slices.Clone(h.Writes), 1, 2)}
	for w := range want.Writes {
		want.Events = append(want.Events, issue(w), ack(w))
	}
	expect(t, "Restrict to most writes", part, err, want, api.OK)
}

func TestP153Order(t *testing.T) {
	for _, h := range small(4) {
		n := len(h.Writes)
		for a := range n {
			if history.Before(h, a, a) {
				t.Errorf("%v: %d is before itself", h.Events, a)
			}
			for b := range n {
				if !history.Before(h, a, b) {
					continue
				}
				for c := range n {
					if history.Before(h, b, c) && !history.Before(h, a, c) {
						t.Errorf("%v: %d is before %d, this before %d", h.Events, a, b, c)
					}
					for d := range n {
						if history.Before(h, c, d) && !history.Before(h, a, d) && !history.Before(h, c, b) {
							t.Errorf("%v: %d is before %d, and %d before %d", h.Events, a, b, c, d)
						}
					}
				}
			}
		}
	}
}

func TestP153Closed(t *testing.T) {
	next := random(4)
	for _, h := range samples() {
		for n := range len(h.Writes) + 1 {
			if !history.Closed(h, all(h)[:n]) {
				t.Errorf("%v: the first %d writes are not closed", h.Events, n)
			}
		}
		for n := range len(h.Events) + 1 {
			if set := history.Acknowledged(h, n); !history.Closed(h, set) {
				t.Errorf("%v: what the first %d events acknowledge is not closed", h.Events, n)
			}
		}
		var cuts [][]int
		for _, set := range setsOf(next, h) {
			if history.Closed(h, set) {
				cuts = append(cuts, set)
			}
		}
		for _, a := range cuts {
			for _, b := range cuts {
				var union, common []int
				for w := range h.Writes {
					inA, inB := slices.Contains(a, w), slices.Contains(b, w)
					if inA || inB {
						union = append(union, w)
					}
					if inA && inB {
						common = append(common, w)
					}
				}
				if !history.Closed(h, union) || !history.Closed(h, common) {
					t.Errorf("%v: the union or the intersection of %v and %v is not closed", h.Events, a, b)
				}
			}
		}
	}
}

func TestP153Restricted(t *testing.T) {
	next := random(5)
	for _, h := range samples() {
		for _, set := range setsOf(next, h) {
			if !history.Closed(h, set) {
				continue
			}
			part, err := history.Restrict(h, set)
			if err != api.OK || history.Check(part) != api.OK {
				t.Fatalf("Restrict to %v: got %v, %d", set, part, err)
			}
			for i, a := range set {
				for k, b := range set {
					if history.Before(part, i, k) != history.Before(h, a, b) {
						t.Errorf("%v: restricted to %v, %d and %d have another order", h.Events, set, a, b)
					}
				}
			}
			want, _ := history.Image(h, set)
			got, err := history.Image(part, all(part))
			expectImage(t, "the image of a restricted history", got, err, want, api.OK)
		}
	}
}

func TestP153Repeated(t *testing.T) {
	for _, h := range samples() {
		got, err := history.New(h.Sizes)
		for _, e := range h.Events {
			if err != api.OK {
				t.Fatalf("the event before %v: got %d", e, err)
			}
			if e.Kind == api.EventAck {
				got, err = history.Ack(got, e.Write)
				continue
			}
			var number int
			got, number, err = history.Issue(got, h.Writes[e.Write])
			if number != e.Write {
				t.Errorf("Issue of write %d: got the number %d", e.Write, number)
			}
		}
		expect(t, "the repeated history", got, err, h, api.OK)
	}
}

// results are what all functions make of a history, a write and a set.
func results(h api.History, w api.Write, set []int) []any {
	made, _ := history.New(h.Sizes)
	issued, _, _ := history.Issue(h, w)
	acked, _ := history.Ack(h, 1)
	im, _ := history.Image(h, set)
	part, _ := history.Restrict(h, set)
	history.Check(h)
	history.Before(h, 0, 1)
	history.Closed(h, set)
	return []any{made, issued, acked, im, part, history.Acknowledged(h, 3)}
}

// spoil changes everything that a value reaches, its spare capacity too.
func spoil(v reflect.Value) {
	switch v.Kind() {
	case reflect.Slice:
		for i := range v.Cap() {
			spoil(v.Slice(0, v.Cap()).Index(i))
		}
	case reflect.Array:
		for i := range v.Len() {
			spoil(v.Index(i))
		}
	case reflect.Struct:
		for i := range v.NumField() {
			spoil(v.Field(i))
		}
	case reflect.Int:
		v.SetInt(77)
	case reflect.Uint8:
		v.SetUint(77)
	}
}

// spare returns a copy of a list with one more element in its spare capacity.
func spare[T any](l []T, beyond T) []T {
	return append(slices.Clone(l), beyond)[:len(l)]
}

// values are arguments of all functions, with elements in their spare capacity.
func values() (api.History, api.Write, []int) {
	h := example()
	for i, w := range h.Writes {
		h.Writes[i].Data = spare(w.Data, api.Sector{9})
	}
	h.Sizes, h.Writes, h.Events = spare(h.Sizes, 5), spare(h.Writes, write(5)), spare(h.Events, ack(1))
	w := write(3)
	w.Data = spare(w.Data, api.Sector{8})
	return h, w, spare([]int{0, 2}, 6)
}

func TestValues(t *testing.T) {
	h, w, set := values()
	got := results(h, w, set)
	whole := func(h api.History, w api.Write, set []int) []any {
		l := []any{h.Sizes[:3], h.Events[:5], h.Writes[:4], w.Volume, w.Start, w.Data[:cap(w.Data)], set[:3]}
		for _, x := range h.Writes {
			l = append(l, x.Data[:cap(x.Data)])
		}
		return l
	}
	wantH, wantW, wantSet := values()
	if !reflect.DeepEqual(whole(h, w, set), whole(wantH, wantW, wantSet)) {
		t.Error("the arguments are modified")
	}
	want := results(values())
	for _, argument := range []any{&h, &w, &set} {
		spoil(reflect.ValueOf(argument).Elem())
	}
	for i := range got {
		if !reflect.DeepEqual(got[i], want[i]) {
			t.Errorf("result %d has changed with the arguments: got %v, want %v", i, got[i], want[i])
		}
	}
	for i := range got {
		spoil(reflect.ValueOf(&got[i]).Elem().Elem())
		for k := range got[i+1:] {
			if !reflect.DeepEqual(got[i+1+k], want[i+1+k]) {
				t.Errorf("result %d has changed with result %d", i+1+k, i)
			}
		}
	}
	if again := results(values()); !reflect.DeepEqual(again, want) {
		t.Error("the results have changed with earlier ones")
	}
}
