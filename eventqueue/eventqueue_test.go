package eventqueue_test

import (
	"bytes"
	"math"
	"slices"
	"testing"

	"standby/api"
	"standby/eventqueue"
)

// ev is an event with a time and a number, and other fields that depend on the number.
func ev(time, number int) api.Event {
	return api.Event{Time: time, Number: number, Kind: number % 3, To: number % 5, Body: []byte{byte(number), 9}[:number%2+1]}
}

func queue(next int, events ...api.Event) api.Queue {
	return api.Queue{Events: events, Next: next}
}

// random returns numbers from 0 to n - 1 that look random.
func random(seed uint32) func(n int) int {
	return func(n int) int {
		seed = seed*1664525 + 1013904223
		return int(seed>>8) % n
	}
}

// full is a queue of n events, of which three have one time.
func full(n int) api.Queue {
	q := api.Queue{Next: n}
	for i := range n {
		q.Events = append(q.Events, ev(i/3, i))
	}
	return q
}

// ordered are queues that are in order.
func ordered() []api.Queue {
	most := api.Event{Time: api.MaxTime, Number: api.MaxTime - 1, Kind: math.MaxInt, To: math.MaxInt, Body: make([]byte, api.MaxPayload)}
	return []api.Queue{
		{},
		{Events: []api.Event{}},
		queue(api.MaxTime),
		queue(1, api.Event{}),
		queue(9, ev(0, 8)),
		queue(2, ev(5, 0), ev(5, 1)),
		queue(4, ev(0, 3), ev(3, 1), ev(5, 0), ev(5, 2)),
		queue(9, ev(3, 7), ev(4, 6), ev(4, 8), ev(5, 0), ev(9, 5)),
		queue(api.MaxTime, most),
		queue(api.MaxTime, ev(0, api.MaxTime-2), ev(0, api.MaxTime-1), ev(api.MaxTime, 0)),
		full(7),
		full(api.MaxSteps),
	}
}

// wrong is a queue that is not in order, with the error of Check.
type wrong struct {
	q   api.Queue
	err api.Errno
}

func wrongQueues() []wrong {
	long := make([]byte, api.MaxPayload+1)
	var l []wrong
	add := func(err api.Errno, next int, events ...api.Event) {
		l = append(l, wrong{queue(next, events...), err})
	}
	add(api.ErrMany, 5000, full(api.MaxSteps+1).Events...)
	// The number of events is checked before Next, and Next before the events.
	add(api.ErrMany, -1, make([]api.Event, api.MaxSteps+1)...)
	for _, next := range []int{math.MinInt, -1, api.MaxTime + 1, math.MaxInt} {
		add(api.ErrRange, next)
		add(api.ErrRange, next, ev(0, 0))
		add(api.ErrRange, next, api.Event{Time: -1})
	}
	for _, time := range []int{math.MinInt, -1, api.MaxTime + 1, math.MaxInt} {
		add(api.ErrTime, 9, ev(time, 0))
		// The time is the first field that is checked.
		add(api.ErrTime, 9, api.Event{Time: time, Number: 9, Kind: -1, To: -1, Body: long})
		add(api.ErrTime, 9, ev(5, 1), ev(time, 1))
	}
	for _, number := range []int{math.MinInt, -1, 9, 10, math.MaxInt} {
		add(api.ErrRange, 9, api.Event{Number: number})
	}
	for _, n := range []int{math.MinInt, -1} {
		add(api.ErrRange, 9, api.Event{Kind: n})
		add(api.ErrRange, 9, api.Event{To: n})
		add(api.ErrRange, 9, api.Event{Time: 3, Kind: n, To: 4, Body: long})
	}
	add(api.ErrRange, 0, api.Event{})
	add(api.ErrRange, 9, ev(5, 1), api.Event{Time: 4, Number: 1, To: -1, Body: long})
	add(api.ErrLong, 9, api.Event{Body: long})
	add(api.ErrLong, 9, ev(5, 1), api.Event{Time: 4, Number: 1, Body: long})
	add(api.ErrForm, 9, ev(5, 1), ev(4, 2))
	add(api.ErrForm, 9, ev(5, 2), ev(5, 1))
	add(api.ErrForm, 9, ev(api.MaxTime, 2), ev(0, 8))
	// The place is checked before the number.
	add(api.ErrForm, 9, ev(5, 1), ev(5, 1))
	add(api.ErrForm, 9, ev(5, 1), ev(4, 1))
	add(api.ErrForm, 9, ev(1, 1), ev(2, 2), ev(5, 3), ev(4, 1))
	add(api.ErrTwice, 9, ev(4, 1), ev(5, 1))
	add(api.ErrTwice, 9, ev(4, 2), ev(5, 1), ev(6, 3), ev(7, 2))
	add(api.ErrTwice, 9, ev(4, 0), ev(5, 0))
	// The first event with an error decides.
	add(api.ErrTwice, 9, ev(4, 1), ev(5, 1), ev(-1, 2))
	add(api.ErrForm, 9, ev(4, 1), ev(3, 2), ev(-1, 3))
	add(api.ErrLong, 9, api.Event{Body: long}, ev(-1, 3))
	add(api.ErrRange, 9, api.Event{To: -1}, ev(-1, 3), ev(-2, 3))
	add(api.ErrTime, 9, ev(0, 0), ev(-1, 3), api.Event{Kind: -1})
	last := full(api.MaxSteps)
	last.Events[api.MaxSteps-1].Number = 0
	last.Events[api.MaxSteps-1].Time = api.MaxTime
	return append(l, wrong{last, api.ErrTwice})
}

func equalEvents(a, b api.Event) bool {
	return a.Time == b.Time && a.Number == b.Number && a.Kind == b.Kind && a.To == b.To && bytes.Equal(a.Body, b.Body)
}

func equalLists(a, b []api.Event) bool {
	return slices.EqualFunc(a, b, equalEvents)
}

func equal(a, b api.Queue) bool {
	return a.Next == b.Next && equalLists(a.Events, b.Events)
}

// expect reports a queue or an error that is not the wanted one; beside an error the queue has to be the zero value.
func expect(t *testing.T, what string, got api.Queue, err api.Errno, want api.Queue, code api.Errno) {
	t.Helper()
	if code != api.OK {
		want = api.Queue{}
	}
	if err != code || !equal(got, want) {
		t.Errorf("%s: got %v, %d, want %v, %d", what, got, err, want, code)
	}
}

// expectEvent reports an event that is not the wanted one.
func expectEvent(t *testing.T, what string, got, want api.Event) {
	t.Helper()
	if !equalEvents(got, want) {
		t.Errorf("%s: got %v, want %v", what, got, want)
	}
}

// numbers are those of events.
func numbers(l []api.Event) []int {
	var n []int
	for _, e := range l {
		n = append(n, e.Number)
	}
	return n
}

// add adds an event with a time, and reports an error.
func add(t *testing.T, q api.Queue, time int) api.Queue {
	t.Helper()
	after, number, err := eventqueue.Add(q, time, q.Next%7, q.Next%11, []byte{byte(q.Next), byte(time)})
	if err != api.OK || number != q.Next {
		t.Fatalf("Add(%v, %d): got the number %d, the error %d", q, time, number, err)
	}
	return after
}

// popped are all events of a queue in the order in which they leave it.
func popped(t *testing.T, q api.Queue) []api.Event {
	t.Helper()
	var l []api.Event
	for range q.Events {
		var e api.Event
		var err api.Errno
		if q, e, err = eventqueue.Pop(q); err != api.OK {
			t.Fatalf("Pop: got %d", err)
		}
		l = append(l, e)
	}
	if len(q.Events) > 0 {
		t.Fatalf("Pop: %v is left", q)
	}
	return l
}

func TestP81Check(t *testing.T) {
	for i, q := range ordered() {
		if err := eventqueue.Check(q); err != api.OK {
			t.Errorf("Check of the queue %d: got %d", i, err)
		}
	}
	for i, w := range wrongQueues() {
		if err := eventqueue.Check(w.q); err != w.err {
			t.Errorf("Check of the wrong queue %d: got %d, want %d", i, err, w.err)
		}
	}
}

func TestP81Example(t *testing.T) {
	q := api.Queue{}
	for i, time := range []int{5, 3, 5, 0} {
		var number int
		var err api.Errno
		if q, number, err = eventqueue.Add(q, time, 1, 2, nil); number != i || err != api.OK {
			t.Errorf("Add at %d: got the number %d, the error %d", time, number, err)
		}
	}
	if got := numbers(popped(t, q)); !slices.Equal(got, []int{3, 1, 0, 2}) {
		t.Errorf("the events leave in the order %v", got)
	}
	q, found := eventqueue.Cancel(q, 0)
	q, first := eventqueue.Due(q, 4)
	q, second := eventqueue.Due(q, 5)
	if !found || !slices.Equal(numbers(first), []int{3, 1}) || !slices.Equal(numbers(second), []int{2}) || len(q.Events) > 0 {
		t.Errorf("Cancel: %v, due at 4: %v, due at 5: %v, left: %v", found, first, second, q)
	}
}

// added is the queue behind Add by the definition: the event stands behind the last one whose time is not greater.
func added(q api.Queue, e api.Event) api.Queue {
	at := 0
	for i, other := range q.Events {
		if other.Time <= e.Time {
			at = i + 1
		}
	}
	return api.Queue{Events: slices.Concat(q.Events[:at], []api.Event{e}, q.Events[at:]), Next: q.Next + 1}
}

// times are those of a queue, those around them, and the limits.
func times(q api.Queue) []int {
	l := []int{0, 1, api.MaxTime - 1, api.MaxTime}
	for _, e := range q.Events[:min(len(q.Events), 10)] {
		l = append(l, e.Time-1, e.Time, e.Time+1)
	}
	return slices.DeleteFunc(l, func(time int) bool { return time < 0 || time > api.MaxTime })
}

func TestP81Add(t *testing.T) {
	for _, q := range ordered() {
		if len(q.Events) == api.MaxSteps || q.Next == api.MaxTime {
			continue
		}
		for _, time := range times(q) {
			for _, e := range []api.Event{
				{},
				{Kind: 1, To: 2, Body: []byte("body")},
				{Kind: math.MaxInt, To: math.MaxInt, Body: bytes.Repeat([]byte{7}, api.MaxPayload)},
			} {
				e.Time, e.Number = time, q.Next
				got, number, err := eventqueue.Add(q, time, e.Kind, e.To, e.Body)
				expect(t, "Add", got, err, added(q, e), api.OK)
				if number != q.Next {
					t.Errorf("Add(%v): got the number %d", q, number)
				}
				if code := eventqueue.Check(got); code != api.OK {
					t.Errorf("Check behind Add: got %d", code)
				}
			}
		}
	}
}

func TestP81AddErrors(t *testing.T) {
	long := make([]byte, api.MaxPayload+1)
	type call struct {
		q              api.Queue
		time, kind, to int
		body           []byte
		want           api.Errno
	}
	some := queue(4, ev(0, 3), ev(3, 1), ev(5, 0), ev(5, 2))
	calls := []call{
		{full(api.MaxSteps), 0, 0, 0, nil, api.ErrFull},
		{queue(5000, full(api.MaxSteps).Events...), 9, 1, 1, nil, api.ErrFull},
		{queue(api.MaxTime), 0, 0, 0, nil, api.ErrFull},
		{queue(api.MaxTime, ev(0, api.MaxTime-1)), 9, 1, 1, nil, api.ErrFull},
	}
	for _, q := range []api.Queue{{}, some, full(api.MaxSteps), queue(api.MaxTime)} {
		// Each error is found before those of the rows below, and before that of a full queue.
		for _, time := range []int{math.MinInt, -1, api.MaxTime + 1, math.MaxInt} {
			calls = append(calls, call{q, time, 0, 0, nil, api.ErrTime}, call{q, time, -1, -1, long, api.ErrTime})
		}
		for _, n := range []int{math.MinInt, -1} {
			calls = append(calls, call{q, 0, n, 0, nil, api.ErrRange}, call{q, 0, 0, n, nil, api.ErrRange}, call{q, 0, n, n, long, api.ErrRange})
		}
		calls = append(calls, call{q, 0, 0, 0, long, api.ErrLong}, call{q, api.MaxTime, 1, 1, long, api.ErrLong})
	}
	for _, w := range wrongQueues() {
		calls = append(calls, call{w.q, 0, 0, 0, nil, w.err}, call{w.q, -1, -1, -1, long, w.err})
	}
	for i, c := range calls {
		got, number, err := eventqueue.Add(c.q, c.time, c.kind, c.to, c.body)
		expect(t, "Add", got, err, api.Queue{}, c.want)
		if number != 0 {
			t.Errorf("Add: got the number %d beside an error", number)
		}
		if t.Failed() {
			t.Fatalf("the call is %d", i)
		}
	}
}

func TestP81AddUntilFull(t *testing.T) {
	q := full(api.MaxSteps - 1)
	q = add(t, q, 7)
	_, _, err := eventqueue.Add(q, 7, 0, 0, nil)
	if len(q.Events) != api.MaxSteps || err != api.ErrFull {
		t.Errorf("the last event of a queue: %d events, then %d", len(q.Events), err)
	}
	q = add(t, queue(api.MaxTime-1), 7)
	_, _, err = eventqueue.Add(q, 7, 0, 0, nil)
	if q.Next != api.MaxTime || err != api.ErrFull {
		t.Errorf("the last number of a queue: Next is %d, then %d", q.Next, err)
	}
	// Where an event leaves, another one has room.
	q, _, _ = eventqueue.Pop(full(api.MaxSteps))
	if q = add(t, q, 0); len(q.Events) != api.MaxSteps {
		t.Errorf("a queue that was full has %d events", len(q.Events))
	}
}

func TestP82FirstAndPop(t *testing.T) {
	for i, q := range ordered() {
		first, found := eventqueue.First(q)
		got, e, err := eventqueue.Pop(q)
		if len(q.Events) == 0 {
			expectEvent(t, "First of no events", first, api.Event{})
			expectEvent(t, "Pop of no events", e, api.Event{})
			expect(t, "Pop of no events", got, err, api.Queue{}, api.ErrNone)
		} else {
			expectEvent(t, "First", first, q.Events[0])
			expectEvent(t, "Pop", e, q.Events[0])
			expect(t, "Pop", got, err, api.Queue{Events: q.Events[1:], Next: q.Next}, api.OK)
		}
		if found != (len(q.Events) > 0) {
			t.Errorf("First of the queue %d: got %v", i, found)
		}
	}
	for i, w := range wrongQueues() {
		first, found := eventqueue.First(w.q)
		expectEvent(t, "First of a wrong queue", first, api.Event{})
		if found {
			t.Errorf("First of the wrong queue %d: got true", i)
		}
		got, e, err := eventqueue.Pop(w.q)
		expectEvent(t, "Pop of a wrong queue", e, api.Event{})
		expect(t, "Pop of a wrong queue", got, err, api.Queue{}, w.err)
	}
}

func TestP82Cancel(t *testing.T) {
	for _, q := range ordered() {
		candidates := []int{math.MinInt, -1, 0, 1, 2, 3, 5, 8, q.Next - 2, q.Next - 1, q.Next, q.Next + 1, 4096, math.MaxInt}
		for _, number := range append(candidates, numbers(q.Events[:min(len(q.Events), 10)])...) {
			want := api.Queue{Next: q.Next}
			for _, e := range q.Events {
				if e.Number != number {
					want.Events = append(want.Events, e)
				}
			}
			got, found := eventqueue.Cancel(q, number)
			expect(t, "Cancel", got, api.OK, want, api.OK)
			if found != (len(want.Events) < len(q.Events)) {
				t.Errorf("Cancel(%v, %d): got %v", q, number, found)
			}
		}
	}
	for i, w := range wrongQueues() {
		for _, number := range []int{-1, 0, 1, 2, 3, 9} {
			got, found := eventqueue.Cancel(w.q, number)
			expect(t, "Cancel in a wrong queue", got, api.OK, w.q, api.OK)
			if found {
				t.Errorf("Cancel in the wrong queue %d: got true", i)
			}
		}
	}
}

func TestP82Due(t *testing.T) {
	for _, q := range ordered() {
		for _, now := range append(times(q), math.MinInt, -1, 4, api.MaxTime+1, math.MaxInt) {
			want := api.Queue{Next: q.Next}
			var due []api.Event
			for _, e := range q.Events {
				if e.Time <= now {
					due = append(due, e)
				} else {
					want.Events = append(want.Events, e)
				}
			}
			got, l := eventqueue.Due(q, now)
			expect(t, "Due", got, api.OK, want, api.OK)
			if !equalLists(l, due) {
				t.Errorf("Due(%v, %d): got %v, want %v", q, now, l, due)
			}
		}
	}
	for i, w := range wrongQueues() {
		for _, now := range []int{-1, 0, 5, api.MaxTime, math.MaxInt} {
			got, l := eventqueue.Due(w.q, now)
			expect(t, "Due of a wrong queue", got, api.OK, w.q, api.OK)
			if len(l) > 0 {
				t.Errorf("Due of the wrong queue %d: got %v", i, l)
			}
		}
	}
}

// filled is a queue of n events with few different times, and these times by the numbers of the events.
func filled(t *testing.T, next func(int) int, n int) (api.Queue, []int) {
	var q api.Queue
	var l []int
	for range n {
		time := next(1 + n/3)
		q = add(t, q, time)
		l = append(l, time)
	}
	return q, l
}

func TestP83Order(t *testing.T) {
	for n := range 40 {
		q, times := filled(t, random(uint32(n)), n)
		var want []int
		for number := range times {
			want = append(want, number)
		}
		slices.SortStableFunc(want, func(a, b int) int { return times[a] - times[b] })
		got := popped(t, q)
		if !slices.Equal(numbers(got), want) {
			t.Errorf("the events with the times %v leave in the order %v, want %v", times, numbers(got), want)
		}
		for _, e := range got {
			// An event leaves as it was added.
			wanted := api.Event{Time: times[e.Number], Number: e.Number, Kind: e.Number % 7, To: e.Number % 11, Body: []byte{byte(e.Number), byte(times[e.Number])}}
			expectEvent(t, "an event that leaves", e, wanted)
		}
	}
}

func TestP83DueIsPop(t *testing.T) {
	for n := range 30 {
		q, _ := filled(t, random(uint32(n)), n)
		for now := -1; now < n; now++ {
			got, l := eventqueue.Due(q, now)
			var want []api.Event
			rest := q
			for range q.Events {
				e, found := eventqueue.First(rest)
				if !found || e.Time > now {
					break
				}
				rest, e, _ = eventqueue.Pop(rest)
				want = append(want, e)
			}
			expect(t, "Due", got, api.OK, rest, api.OK)
			if !equalLists(l, want) {
				t.Errorf("Due(%v, %d): got %v, want %v", q, now, l, want)
			}
		}
	}
}

func TestP83CancelledNeverLeave(t *testing.T) {
	for n := range 30 {
		next := random(uint32(n))
		q, _ := filled(t, next, n)
		want := numbers(q.Events)
		for range n / 2 {
			number := next(n)
			i := slices.Index(want, number)
			var found bool
			if q, found = eventqueue.Cancel(q, number); found != (i >= 0) {
				t.Errorf("Cancel of %d: got %v", number, found)
			}
			if i >= 0 {
				want = slices.Delete(want, i, i+1)
			}
		}
		if got := numbers(popped(t, q)); !slices.Equal(got, want) {
			t.Errorf("the events %v leave, want %v", got, want)
		}
	}
}

func TestP83NumbersAreUsedOnce(t *testing.T) {
	next := random(1)
	var q api.Queue
	given := map[int]bool{}
	left := map[int]bool{}
	leave := func(l ...api.Event) {
		for _, e := range l {
			if left[e.Number] || !given[e.Number] {
				t.Fatalf("the event %d leaves twice, or was never added", e.Number)
			}
			left[e.Number] = true
		}
	}
	for range 2000 {
		switch next(6) {
		case 0, 1, 2:
			var number int
			var err api.Errno
			if q, number, err = eventqueue.Add(q, next(50), 0, 0, nil); err != api.OK || given[number] {
				t.Fatalf("Add: got the number %d, the error %d", number, err)
			}
			given[number] = true
		case 3:
			if after, e, err := eventqueue.Pop(q); err == api.OK {
				q = after
				leave(e)
			}
		case 4:
			number := next(1 + q.Next)
			after, found := eventqueue.Cancel(q, number)
			if q = after; found {
				leave(api.Event{Number: number})
			}
		case 5:
			after, l := eventqueue.Due(q, next(10))
			q = after
			leave(l...)
		}
		if err := eventqueue.Check(q); err != api.OK {
			t.Fatalf("Check(%v): got %d", q, err)
		}
	}
	leave(q.Events...)
	if len(left) != len(given) || q.Next != len(given) {
		t.Errorf("%d numbers were given, %d events left, Next is %d", len(given), len(left), q.Next)
	}
}

// argument is a queue with spare capacity behind its events and their bodies.
func argument() api.Queue {
	q := queue(9, ev(3, 7), ev(4, 6), ev(4, 8), ev(5, 0), ev(9, 5), ev(9, 9), ev(9, 9))
	for i := range q.Events {
		q.Events[i].Body = []byte{byte(i), 77, 88, 99}[:2]
	}
	q.Events = q.Events[:5]
	return q
}

// results are what all functions make of a queue that is in order, as queues.
func results(q api.Queue, body []byte) []api.Queue {
	first, _ := eventqueue.First(q)
	early, _, _ := eventqueue.Add(q, 0, 1, 1, body)
	middle, _, _ := eventqueue.Add(q, 4, 1, 1, body)
	late, _, _ := eventqueue.Add(q, 99, 1, 1, body)
	popped, e, _ := eventqueue.Pop(q)
	cancelled, _ := eventqueue.Cancel(q, 8)
	kept, _ := eventqueue.Cancel(q, 1)
	left, due := eventqueue.Due(q, 4)
	all, none := eventqueue.Due(q, 0)
	// A queue that is not in order is given back, too.
	bad := q
	bad.Next = -1
	badKept, _ := eventqueue.Cancel(bad, 7)
	badLeft, _ := eventqueue.Due(bad, 4)
	return []api.Queue{queue(0, first), early, middle, late, popped, queue(0, e), cancelled, kept, left, queue(0, due...), all, queue(0, none...), badKept, badLeft}
}

// spoil changes everything that can be reached from events, with the spare capacity.
func spoil(l []api.Event) {
	l = l[:cap(l)]
	for i := range l {
		body := l[i].Body[:cap(l[i].Body)]
		for k := range body {
			body[k] = 0xEE
		}
		l[i].Number = -7
	}
}

func TestValues(t *testing.T) {
	q, body := argument(), []byte{1, 2, 3, 4}
	got := results(q, body[:3])
	wanted := results(argument(), []byte{1, 2, 3})
	fresh := argument()
	for i, e := range q.Events[:7] {
		other := fresh.Events[:7][i]
		if !equalEvents(e, other) || !bytes.Equal(e.Body[:4], other.Body[:4]) {
			t.Errorf("the event %d is modified: %v", i, e)
		}
	}
	if !bytes.Equal(body, []byte{1, 2, 3, 4}) || q.Next != 9 {
		t.Errorf("the arguments are modified: %v, %v", q, body)
	}
	spoil(q.Events)
	clear(body)
	for i := range got {
		expect(t, "a result after a change of the arguments", got[i], api.OK, wanted[i], api.OK)
		spoil(got[i].Events)
		for k := i + 1; k < len(got); k++ {
			expect(t, "a result after a change of another one", got[k], api.OK, wanted[k], api.OK)
		}
	}
}
