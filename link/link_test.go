package link_test

import (
	"bytes"
	"math"
	"slices"
	"testing"

	"standby/api"
	"standby/link"
)

// fl is a flight with a payload that depends on the number.
func fl(time, number int) api.Flight {
	return api.Flight{Time: time, Number: number, Payload: []byte{byte(number), 9, 8}[:1+number%3]}
}

func config(min, max, rate int) api.LinkConfig {
	return api.LinkConfig{MinDelay: min, MaxDelay: max, Rate: rate}
}

func of(c api.LinkConfig, idle, next int, flights ...api.Flight) api.Link {
	return api.Link{Config: c, Idle: idle, Next: next, Flights: flights}
}

func down(l api.Link) api.Link {
	l.Down = true
	return l
}

// random returns numbers from 0 to n - 1 that look random.
func random(seed uint32) func(n int) int {
	return func(n int) int {
		seed = seed*1664525 + 1013904223
		return int(seed>>8) % n
	}
}

// full is a link with n flights, of which three have one time.
func full(n int) api.Link {
	l := api.Link{Config: config(1, 5, 3), Next: n}
	for i := range n {
		l.Flights = append(l.Flights, fl(i/3, i))
	}
	return l
}

var configs = []api.LinkConfig{
	{},
	config(0, 0, 1),
	config(0, 3, 0),
	config(1, 3, 4),
	config(5, 5, 7),
	config(2, 9, api.MaxBytes),
	config(api.MaxTime/2, api.MaxTime/2+3, 2),
}

// ordered are links that are in order.
func ordered() []api.Link {
	l := []api.Link{
		of(config(0, api.MaxTime, 0), 0, 0),
		of(config(api.MaxTime, api.MaxTime, api.MaxBytes), api.MaxTime, api.MaxTime),
		of(config(0, 1, 2), api.MaxTime, api.MaxTime, api.Flight{Time: api.MaxTime, Number: api.MaxTime - 1, Payload: make([]byte, api.MaxBytes)}),
		down(of(config(1, 2, 3), 7, 8)),
		down(of(config(1, 2, 3), api.MaxTime, api.MaxTime)),
		{Flights: []api.Flight{}},
		full(7),
		full(api.MaxSteps - 2),
		full(api.MaxSteps - 1),
		full(api.MaxSteps),
	}
	for _, c := range configs {
		l = append(l,
			of(c, 0, 0),
			of(c, 12, 5),
			of(c, 3, 1, fl(0, 0)),
			of(c, 3, 9, fl(4, 8)),
			of(c, 4, 2, fl(5, 0), fl(5, 1)),
			of(c, 6, 9, fl(0, 3), fl(3, 1), fl(5, 0), fl(5, 2), fl(6, 8)),
			of(c, 1, 9, fl(14, 7), fl(15, 6), fl(15, 8), fl(16, 0), fl(19, 5)),
			of(c, 5, api.MaxTime-2, fl(0, api.MaxTime-4), fl(0, api.MaxTime-3), fl(api.MaxTime, 0)),
			of(c, 5, api.MaxTime-1, fl(6, api.MaxTime-2)),
		)
	}
	return l
}

// wrong is a link that is not in order, with the error of Check.
type wrong struct {
	l   api.Link
	err api.Errno
}

// wrongConfigs are configurations with a number out of its range.
func wrongConfigs() []api.LinkConfig {
	least, most := math.MinInt, math.MaxInt
	return []api.LinkConfig{
		config(2, 1, 3), config(-1, 2, 3), config(-2, -1, 3), config(0, -1, 3), config(least, 2, 3), config(1, least, 3),
		config(0, api.MaxTime+1, 3), config(api.MaxTime+1, api.MaxTime+1, 3), config(0, most, 3), config(most, most, 3), config(most, 2, 3), config(least, most, 3),
		config(1, 2, -1), config(1, 2, least), config(1, 2, api.MaxBytes+1), config(1, 2, most),
	}
}

// wrongHeads are links with an error in the fields beside the flights.
func wrongHeads() []wrong {
	var l []wrong
	good := config(1, 2, 3)
	for _, c := range wrongConfigs() {
		l = append(l, wrong{of(c, 0, 0), api.ErrRange}, wrong{of(c, -1, -1), api.ErrRange})
	}
	many := make([]api.Flight, api.MaxSteps+1)
	for _, x := range []int{math.MinInt, -1, api.MaxTime + 1, math.MaxInt} {
		l = append(l,
			wrong{of(good, x, 0), api.ErrTime}, wrong{of(good, x, -1, fl(0, 0)), api.ErrTime}, wrong{of(good, x, 1, many...), api.ErrTime}, wrong{down(of(good, x, 0)), api.ErrTime},
			wrong{of(good, 0, x), api.ErrRange}, wrong{of(good, 0, x, fl(-1, 0)), api.ErrRange}, wrong{of(good, 0, x, many...), api.ErrRange}, wrong{down(of(good, 0, x)), api.ErrRange},
		)
	}
	return append(l,
		wrong{of(config(2, 1, 3), 0, 1, many...), api.ErrRange},
		wrong{full(api.MaxSteps + 1), api.ErrMany},
		wrong{of(good, 0, 1, many...), api.ErrMany},
		wrong{down(full(api.MaxSteps + 1)), api.ErrMany},
		wrong{down(full(api.MaxSteps)), api.ErrState},
		wrong{down(of(good, 0, 1, fl(0, 0))), api.ErrState},
		// The state is checked before the flights.
		wrong{down(of(good, 0, 1, fl(-1, 9))), api.ErrState},
	)
}

// wrongLinks are links that are not in order.
func wrongLinks() []wrong {
	l := wrongHeads()
	long := make([]byte, api.MaxBytes+1)
	add := func(err api.Errno, flights ...api.Flight) {
		l = append(l, wrong{of(config(1, 2, 3), 4, 9, flights...), err})
	}
	for _, time := range []int{math.MinInt, -1, api.MaxTime + 1, math.MaxInt} {
		add(api.ErrTime, fl(time, 0))
		// The time is the first field that is checked.
		add(api.ErrTime, api.Flight{Time: time, Number: 9, Payload: long})
		add(api.ErrTime, fl(5, 1), fl(time, 1))
	}
	for _, number := range []int{math.MinInt, -1, 9, 10, math.MaxInt} {
		add(api.ErrRange, api.Flight{Number: number})
		add(api.ErrRange, fl(5, 1), api.Flight{Time: 4, Number: number, Payload: long})
	}
	l = append(l, wrong{api.Link{Flights: []api.Flight{{}}}, api.ErrRange})
	add(api.ErrLong, api.Flight{Payload: long})
	add(api.ErrLong, fl(5, 1), api.Flight{Time: 4, Number: 1, Payload: long})
	add(api.ErrForm, fl(5, 1), fl(4, 2))
	add(api.ErrForm, fl(5, 2), fl(5, 1))
	add(api.ErrForm, fl(api.MaxTime, 2), fl(0, 8))
	// The place is checked before the number.
	add(api.ErrForm, fl(5, 1), fl(5, 1))
	add(api.ErrForm, fl(5, 1), fl(4, 1))
	add(api.ErrForm, fl(1, 1), fl(2, 2), fl(5, 3), fl(4, 1))
	add(api.ErrTwice, fl(4, 1), fl(5, 1))
	add(api.ErrTwice, fl(4, 2), fl(5, 1), fl(6, 3), fl(7, 2))
	add(api.ErrTwice, fl(4, 0), fl(5, 0))
	// The first flight with an error decides.
	add(api.ErrTwice, fl(4, 1), fl(5, 1), fl(-1, 2))
	add(api.ErrForm, fl(4, 1), fl(3, 2), fl(-1, 3))
	add(api.ErrLong, api.Flight{Payload: long}, fl(-1, 3))
	add(api.ErrRange, fl(0, 9), fl(-1, 3))
	add(api.ErrTime, fl(0, 0), fl(-1, 3), fl(0, 9))
	last := full(api.MaxSteps)
	last.Flights[api.MaxSteps-1] = fl(api.MaxTime, 0)
	return append(l, wrong{last, api.ErrTwice})
}

func equalFlights(a, b []api.Flight) bool {
	return slices.EqualFunc(a, b, func(x, y api.Flight) bool {
		return x.Time == y.Time && x.Number == y.Number && bytes.Equal(x.Payload, y.Payload)
	})
}

func equal(a, b api.Link) bool {
	return a.Config == b.Config && a.Down == b.Down && a.Idle == b.Idle && a.Next == b.Next && equalFlights(a.Flights, b.Flights)
}

// short is a link of which only a few flights are shown.
func short(l api.Link) api.Link {
	l.Flights = l.Flights[:min(len(l.Flights), 12)]
	return l
}

// expect reports a link or an error that is not the wanted one; beside an error the link has to be the zero value.
func expect(t *testing.T, what string, got api.Link, err api.Errno, want api.Link, code api.Errno) {
	t.Helper()
	if code != api.OK {
		want = api.Link{}
	}
	if err != code || !equal(got, want) {
		t.Errorf("%s: got %v, %d, want %v, %d", what, short(got), err, short(want), code)
	}
}

func expectInts(t *testing.T, what string, got, want []int) {
	t.Helper()
	if !slices.Equal(got, want) {
		t.Errorf("%s: got %v, want %v", what, got, want)
	}
}

func expectPayloads(t *testing.T, what string, got, want [][]byte) {
	t.Helper()
	if !slices.EqualFunc(got, want, bytes.Equal) {
		t.Errorf("%s: got %v, want %v", what, got, want)
	}
}

// sent is the link behind Send by the definition, with the number of decisions.
func sent(l api.Link, now int, payload []byte, choices []int) (api.Link, int) {
	if l.Down {
		return l, 0
	}
	taken := 0
	decide := func(n int) int {
		value := 0
		if taken < len(choices) {
			value = ((choices[taken] % n) + n) % n
			taken++
		}
		return value
	}
	l.Idle = max(l.Idle, now)
	// The rate is the number of bytes that leave in each tick.
	for left := len(payload); left > 0 && l.Config.Rate > 0; left -= l.Config.Rate {
		l.Idle++
	}
	kind := decide(3)
	if kind == 1 {
		return l, taken
	}
	for range 1 + kind/2 {
		f := api.Flight{Time: l.Idle + l.Config.MinDelay + decide(l.Config.MaxDelay-l.Config.MinDelay+1), Number: l.Next, Payload: payload}
		at := 0
		for i, other := range l.Flights {
			if other.Time <= f.Time {
				at = i + 1
			}
		}
		l.Flights = slices.Concat(l.Flights[:at], []api.Flight{f}, l.Flights[at:])
		l.Next++
	}
	return l, taken
}

func TestP101New(t *testing.T) {
	for _, c := range append(configs, config(0, api.MaxTime, 0), config(api.MaxTime, api.MaxTime, api.MaxBytes)) {
		l, err := link.New(c)
		expect(t, "New", l, err, api.Link{Config: c}, api.OK)
	}
	for _, c := range wrongConfigs() {
		l, err := link.New(c)
		expect(t, "New with a wrong configuration", l, err, api.Link{}, api.ErrRange)
	}
}

func TestP101Check(t *testing.T) {
	for i, l := range ordered() {
		if err := link.Check(l); err != api.OK {
			t.Errorf("Check of the link %d: got %d", i, err)
		}
	}
	for i, w := range wrongLinks() {
		if err := link.Check(w.l); err != w.err {
			t.Errorf("Check of the wrong link %d, %v: got %d, want %d", i, short(w.l), err, w.err)
		}
	}
}

func TestP101Examples(t *testing.T) {
	first, second := []byte("abcdef"), []byte("g")
	l, _ := link.New(config(1, 3, 4))
	l, left, err := link.Send(l, 10, first, []int{0, 2})
	expect(t, "the first payload", l, err, of(config(1, 3, 4), 12, 1, api.Flight{Time: 15, Number: 0, Payload: first}), api.OK)
	expectInts(t, "the choices that are left", left, nil)
	lost, left, err := link.Send(l, 10, second, []int{1, 7})
	expect(t, "a payload that is lost", lost, err, of(config(1, 3, 4), 13, 1, api.Flight{Time: 15, Number: 0, Payload: first}), api.OK)
	expectInts(t, "the choices behind a loss", left, []int{7})
	l, left, err = link.Send(l, 10, second, []int{2, 0, 1})
	expect(t, "the second payload", l, err, of(config(1, 3, 4), 13, 3,
		api.Flight{Time: 14, Number: 1, Payload: second}, api.Flight{Time: 15, Number: 0, Payload: first}, api.Flight{Time: 15, Number: 2, Payload: second}), api.OK)
	expectInts(t, "the choices that are left", left, nil)
	l, none := link.Deliver(l, 13)
	l, one := link.Deliver(l, 14)
	l, two := link.Deliver(l, 15)
	expectPayloads(t, "until 13", none, nil)
	expectPayloads(t, "until 14", one, [][]byte{second})
	expectPayloads(t, "until 15", two, [][]byte{first, second})
	expect(t, "the link that is left", l, api.OK, of(config(1, 3, 4), 13, 3), api.OK)
}

// choiceLists are lists of choices of different lengths.
func choiceLists() [][]int {
	l := [][]int{nil, {0}, {1}, {2}, {-1}, {-2, 7}, {2, 5}, {1, 7}, {0, 1, 2, 3}, {2, 1, 0, 3}, {2, 0, 1, 3}, {2, -1, -2, -3}, {5, 2, 2, 2}, {-4, 6, 7, 8},
		{math.MaxInt, math.MaxInt, math.MaxInt}, {math.MinInt, math.MinInt, math.MinInt}, {2, math.MinInt, math.MaxInt, 4}}
	for seed := range 20 {
		next := random(uint32(seed))
		l = append(l, []int{next(3), next(20), next(20) - 10, next(99)})
	}
	return l
}

// sends reports whether Send has no error for a time and a number of bytes.
func sends(l api.Link, now, bytes int) bool {
	end := max(now, l.Idle)
	if l.Config.Rate > 0 {
		end += bytes / l.Config.Rate
		if bytes%l.Config.Rate > 0 {
			end++
		}
	}
	return l.Down || end+l.Config.MaxDelay <= api.MaxTime && len(l.Flights)+2 <= api.MaxSteps && l.Next+2 <= api.MaxTime
}

func TestP101Send(t *testing.T) {
	payloads := [][]byte{nil, []byte("a"), []byte("abcd"), []byte("abcdefgh"), []byte("abcdefghijk"), make([]byte, api.MaxBytes)}
	for _, l := range ordered() {
		lists := choiceLists()
		if len(l.Flights) > 100 {
			lists = lists[:7]
		}
		for i, choices := range lists {
			payload := payloads[i%len(payloads)]
			for _, now := range []int{0, 1, l.Idle, min(l.Idle+1, api.MaxTime), 9, 14, 1000, api.MaxTime} {
				got, left, err := link.Send(l, now, payload, choices)
				if !sends(l, now, len(payload)) {
					if err == api.OK {
						t.Errorf("Send(%v, %d) of %d bytes has no error", short(l), now, len(payload))
					}
					continue
				}
				want, taken := sent(l, now, payload, choices)
				expect(t, "Send", got, err, want, api.OK)
				expectInts(t, "the choices that are left", left, choices[taken:])
				if code := link.Check(got); code != api.OK {
					t.Errorf("Check behind Send: got %d", code)
				}
			}
		}
	}
}

func TestP101SendDown(t *testing.T) {
	for _, l := range []api.Link{down(of(config(1, 2, 3), 7, 8)), down(of(config(api.MaxTime, api.MaxTime, 1), api.MaxTime, api.MaxTime))} {
		for _, now := range []int{0, 5, 100, api.MaxTime} {
			for _, n := range []int{0, 1, api.MaxBytes} {
				for _, choices := range [][]int{nil, {0}, {2, 1, 1, 5}} {
					got, left, err := link.Send(l, now, make([]byte, n), choices)
					expect(t, "Send on a link that is down", got, err, l, api.OK)
					expectInts(t, "the choices on a link that is down", left, choices)
				}
			}
		}
	}
}

func TestP101SendErrors(t *testing.T) {
	good, long := of(config(1, 3, 4), 5, 9, fl(6, 8)), make([]byte, api.MaxBytes+1)
	type call struct {
		l       api.Link
		now     int
		payload []byte
		want    api.Errno
	}
	var calls []call
	for _, w := range wrongLinks() {
		calls = append(calls, call{w.l, 5, nil, w.err}, call{w.l, -1, long, w.err})
	}
	for _, l := range []api.Link{good, down(of(config(1, 2, 3), 7, 8)), full(api.MaxSteps), of(config(0, 0, 0), api.MaxTime, api.MaxTime)} {
		for _, now := range []int{math.MinInt, -1, api.MaxTime + 1, math.MaxInt} {
			calls = append(calls, call{l, now, nil, api.ErrTime}, call{l, now, long, api.ErrTime})
		}
		calls = append(calls, call{l, 0, long, api.ErrLong}, call{l, api.MaxTime, long, api.ErrLong})
	}
	const most = api.MaxTime
	calls = append(calls,
		// The end of the transmission and the greatest delay have to be times, whatever the decisions are.
		call{of(config(0, 3, 4), 0, 0), most - 3, nil, api.OK},
		call{of(config(0, 3, 4), 0, 0), most - 2, nil, api.ErrTime},
		call{of(config(0, 3, 4), 0, 0), most - 4, make([]byte, 4), api.OK},
		call{of(config(0, 3, 4), 0, 0), most - 4, make([]byte, 5), api.ErrTime},
		call{of(config(0, 3, 4), most-3, 0), 0, nil, api.OK},
		call{of(config(0, 3, 4), most-2, 0), 0, nil, api.ErrTime},
		call{of(config(0, 3, 4), most-3, 0), 0, make([]byte, 1), api.ErrTime},
		call{of(config(0, most, 0), 0, 0), 0, make([]byte, api.MaxBytes), api.OK},
		call{of(config(0, most, 0), 0, 0), 1, nil, api.ErrTime},
		call{of(config(0, most, 1), 0, 0), 0, make([]byte, 1), api.ErrTime},
		call{of(config(most, most, 1), most, 0), most, make([]byte, api.MaxBytes), api.ErrTime},
		// The time is checked before the room.
		call{of(config(0, 0, 1), most, most), 0, make([]byte, 1), api.ErrTime},
		call{of(config(0, 0, 1), most, most), most, nil, api.ErrFull},
		call{of(config(0, 1, 1), 0, most-2), 0, nil, api.OK},
		call{of(config(0, 1, 1), 0, most-1), 0, nil, api.ErrFull},
		call{full(api.MaxSteps - 2), 0, nil, api.OK},
		call{full(api.MaxSteps - 1), 0, nil, api.ErrFull},
		call{full(api.MaxSteps), most - 5, nil, api.ErrFull},
		call{full(api.MaxSteps), most - 4, nil, api.ErrTime},
	)
	for i, c := range calls {
		for _, choices := range [][]int{{1, 5}, {0, 0}, {2, 0, 0}} {
			got, left, err := link.Send(c.l, c.now, c.payload, choices)
			if c.want == api.OK {
				want, taken := sent(c.l, c.now, c.payload, choices)
				expect(t, "Send at a limit", got, err, want, api.OK)
				expectInts(t, "the choices that are left", left, choices[taken:])
			} else {
				expect(t, "Send with an error", got, err, api.Link{}, c.want)
				expectInts(t, "the choices beside an error", left, nil)
			}
		}
		if t.Failed() {
			t.Fatalf("the call is %d", i)
		}
	}
}

// times are those of the flights of a link, those around them, and the limits.
func times(l api.Link) []int {
	some := []int{math.MinInt, -1, 0, 1, 4, api.MaxTime, api.MaxTime + 1, math.MaxInt}
	for _, f := range l.Flights[:min(len(l.Flights), 10)] {
		some = append(some, f.Time-1, f.Time, f.Time+1)
	}
	return some
}

func TestP102DeliverAndNext(t *testing.T) {
	for _, l := range ordered() {
		time, found := link.Next(l)
		if found != (len(l.Flights) > 0) || found && time != l.Flights[0].Time || !found && time != 0 {
			t.Errorf("Next(%v): got %d, %v", short(l), time, found)
		}
		for _, now := range times(l) {
			want := l
			want.Flights = nil
			var due [][]byte
			for _, f := range l.Flights {
				if f.Time <= now {
					due = append(due, f.Payload)
				} else {
					want.Flights = append(want.Flights, f)
				}
			}
			got, payloads := link.Deliver(l, now)
			expect(t, "Deliver", got, api.OK, want, api.OK)
			expectPayloads(t, "Deliver", payloads, due)
		}
	}
	for i, w := range wrongLinks() {
		if time, found := link.Next(w.l); time != 0 || found {
			t.Errorf("Next of the wrong link %d: got %d, %v", i, time, found)
		}
		for _, now := range []int{-1, 0, 5, api.MaxTime, math.MaxInt} {
			got, payloads := link.Deliver(w.l, now)
			expect(t, "Deliver of a wrong link", got, api.OK, w.l, api.OK)
			expectPayloads(t, "Deliver of a wrong link", payloads, nil)
		}
	}
}

func TestP102Cut(t *testing.T) {
	for _, l := range ordered() {
		want := api.Link{Config: l.Config, Down: true, Idle: l.Idle, Next: l.Next}
		got := link.Cut(l)
		expect(t, "Cut", got, api.OK, want, api.OK)
		expect(t, "Cut twice", link.Cut(got), api.OK, want, api.OK)
		if code := link.Check(got); code != api.OK {
			t.Errorf("Check behind Cut: got %d", code)
		}
	}
	for _, w := range wrongLinks() {
		expect(t, "Cut of a wrong link", link.Cut(w.l), api.OK, w.l, api.OK)
	}
}

func TestP102Restore(t *testing.T) {
	all := []int{math.MinInt, -1, 0, 1, 5, 1000, api.MaxTime - 1, api.MaxTime, api.MaxTime + 1, math.MaxInt}
	for _, l := range ordered() {
		for _, now := range all {
			want := l
			if l.Down && now >= 0 && now <= api.MaxTime {
				want.Down, want.Idle = false, now
			}
			expect(t, "Restore", link.Restore(l, now), api.OK, want, api.OK)
			want = link.Cut(l)
			if now >= 0 && now <= api.MaxTime {
				want.Down, want.Idle = false, now
			}
			expect(t, "Restore behind Cut", link.Restore(link.Cut(l), now), api.OK, want, api.OK)
		}
	}
	for _, w := range wrongLinks() {
		for _, now := range all {
			expect(t, "Restore of a wrong link", link.Restore(w.l, now), api.OK, w.l, api.OK)
		}
	}
}

// shipment is a payload that was sent.
type shipment struct {
	now, begin, end int
	payload         []byte
	arrivals        int
}

// ship sends a payload, and reports an error.
func ship(t *testing.T, l api.Link, now int, payload []byte, choices []int) (api.Link, shipment) {
	t.Helper()
	after, _, err := link.Send(l, now, payload, choices)
	if err != api.OK {
		t.Fatalf("Send: got %d", err)
	}
	kind := 0
	if len(choices) > 0 {
		kind = ((choices[0] % 3) + 3) % 3
	}
	return after, shipment{now, max(now, l.Idle), after.Idle, payload, []int{1, 0, 2}[kind]}
}

func TestP103ArrivesAsDecided(t *testing.T) {
	for seed := range 60 {
		next := random(uint32(seed))
		least := next(5)
		c := config(least, least+next(8), next(6))
		l, _ := link.New(c)
		var all []shipment
		count := make([]int, 40)
		deliver := func(now int) {
			due, found := link.Next(l)
			after, payloads := link.Deliver(l, now)
			if (len(payloads) > 0) != (found && due <= now) {
				t.Fatalf("Next is %d, %v, but %d payloads arrive until %d", due, found, len(payloads), now)
			}
			l = after
			for _, payload := range payloads {
				s := all[payload[0]]
				count[payload[0]]++
				if !bytes.Equal(payload, s.payload) {
					t.Fatalf("%v arrives, %v was sent", payload, s.payload)
				}
				if now < s.end+c.MinDelay || now > s.end+c.MaxDelay {
					t.Fatalf("a payload that was transmitted until %d arrives at %d", s.end, now)
				}
			}
		}
		now := 0
		for i := range 40 {
			for range next(4) {
				deliver(now)
				now++
			}
			payload := append([]byte{byte(i)}, make([]byte, next(9))...)
			var s shipment
			l, s = ship(t, l, now, payload, []int{next(6) - 3, next(20) - 10, next(20) - 10})
			all = append(all, s)
		}
		for ; len(l.Flights) > 0; now++ {
			deliver(now)
		}
		for i, s := range all {
			if count[i] != s.arrivals {
				t.Errorf("a payload arrives %d times, %d were decided", count[i], s.arrivals)
			}
		}
	}
}

func TestP103CutLosesAll(t *testing.T) {
	for seed := range 30 {
		next := random(uint32(seed))
		l, _ := link.New(config(1, 5, 3))
		for i := range 9 {
			l, _ = ship(t, l, 2*i, []byte{byte(i)}, []int{2 * next(2), next(5), next(5)})
		}
		l, _ = link.Deliver(l, 10)
		if _, found := link.Next(l); !found {
			t.Fatalf("no payload is under way before the cut")
		}
		l = link.Cut(l)
		l, _ = ship(t, l, 20, []byte{100}, nil)
		if _, found := link.Next(l); found {
			t.Errorf("a payload is under way on a link that is down")
		}
		l = link.Restore(l, 30)
		l, s := ship(t, l, 30, []byte{101}, nil)
		_, late := link.Deliver(l, api.MaxTime)
		expectPayloads(t, "what arrives behind a cut", late, [][]byte{{101}})
		if s.begin != 30 {
			t.Errorf("the transmission behind a cut begins at %d", s.begin)
		}
	}
}

func TestP103EqualDelaysKeepTheOrder(t *testing.T) {
	for seed := range 40 {
		next := random(uint32(seed))
		delay := next(9)
		l, _ := link.New(config(delay, delay, next(5)))
		var want, got [][]byte
		now := 0
		for i := range 30 {
			now += next(3)
			var s shipment
			// Sometimes the time does not grow, and some payloads are empty but for their number.
			l, s = ship(t, l, max(0, now-next(3)), append([]byte{byte(i)}, make([]byte, next(7))...), []int{2 * next(2), next(9), next(9)})
			for range s.arrivals {
				want = append(want, s.payload)
			}
		}
		for now := range 1000 {
			after, payloads := link.Deliver(l, now)
			l = after
			got = append(got, payloads...)
		}
		expectPayloads(t, "what arrives with equal delays", got, want)
	}
}

func TestP103Rate(t *testing.T) {
	for seed := range 40 {
		next := random(uint32(seed))
		rate := 1 + next(6)
		l, _ := link.New(config(0, 4, rate))
		var all []shipment
		now := 0
		for range 25 {
			now += next(6)
			var s shipment
			l, s = ship(t, l, now, make([]byte, next(30)), []int{next(3), next(5), next(5)})
			all = append(all, s)
		}
		for i, first := range all {
			if first.begin < first.now {
				t.Errorf("a payload that is sent at %d leaves at %d", first.now, first.begin)
			}
			sum := 0
			for _, last := range all[i:] {
				sum += len(last.payload)
				if last.begin < first.begin || sum > rate*(last.end-first.begin) {
					t.Errorf("%d bytes from %d to %d with the rate %d", sum, first.begin, last.end, rate)
				}
			}
			// A transmission does not take a tick more than it has to.
			if ticks := first.end - first.begin; ticks > 0 && len(first.payload) <= rate*(ticks-1) {
				t.Errorf("%d bytes take %d ticks with the rate %d", len(first.payload), ticks, rate)
			}
		}
	}
}

// argument is a link with spare capacity behind its flights and their payloads.
func argument() api.Link {
	l := of(config(1, 4, 3), 2, 9, fl(3, 7), fl(4, 6), fl(4, 8), fl(5, 0), fl(9, 5), fl(9, 9), fl(9, 9))
	for i := range l.Flights {
		l.Flights[i].Payload = []byte{byte(i), 77, 88, 99}[:2]
	}
	l.Flights = l.Flights[:5]
	return l
}

// carrying is a link that carries payloads.
func carrying(payloads [][]byte) api.Link {
	var l api.Link
	for _, payload := range payloads {
		l.Flights = append(l.Flights, api.Flight{Payload: payload})
	}
	return l
}

// results are what all functions make of a link that is in order, as links.
func results(l api.Link, payload []byte, choices []int) []api.Link {
	var found []api.Link
	send := func(now int, choices []int) {
		after, left, _ := link.Send(l, now, payload, choices)
		found = append(found, after, api.Link{Next: len(left)})
		clear(left[:cap(left)])
	}
	send(2, choices)
	send(0, choices[:1])
	send(2, nil)
	send(99, choices[1:])
	after, payloads := link.Deliver(l, 4)
	all, none := link.Deliver(l, 0)
	found = append(found, after, carrying(payloads), all, carrying(none), link.Cut(l), link.Restore(l, 5))
	// A link that is not in order is given back, too.
	bad := l
	bad.Next = -1
	badLink, badPayloads := link.Deliver(bad, 4)
	found = append(found, badLink, carrying(badPayloads), link.Cut(bad), link.Restore(bad, 4))
	l = link.Cut(l)
	send(7, choices)
	return append(found, link.Restore(l, 5))
}

// spoil changes everything that can be reached from flights, with the spare capacity.
func spoil(l []api.Flight) {
	l = l[:cap(l)]
	for i := range l {
		payload := l[i].Payload[:cap(l[i].Payload)]
		for k := range payload {
			payload[k] = 0xEE
		}
		l[i].Number = -7
	}
}

func TestValues(t *testing.T) {
	l, payload, choices := argument(), []byte{1, 2, 3, 4}, []int{2, 1, 0, 5}
	got := results(l, payload[:3], choices[:3])
	wanted := results(argument(), []byte{1, 2, 3}, []int{2, 1, 0})
	fresh := argument()
	for i, f := range l.Flights[:7] {
		other := fresh.Flights[:7][i]
		if f.Time != other.Time || f.Number != other.Number || !bytes.Equal(f.Payload[:4], other.Payload[:4]) {
			t.Errorf("the flight %d is modified: %v", i, f)
		}
	}
	if !bytes.Equal(payload, []byte{1, 2, 3, 4}) || !slices.Equal(choices, []int{2, 1, 0, 5}) {
		t.Errorf("the arguments are modified: %v, %v", payload, choices)
	}
	spoil(l.Flights)
	clear(payload)
	clear(choices)
	for i := range got {
		expect(t, "a result after a change of the arguments", got[i], api.OK, wanted[i], api.OK)
		spoil(got[i].Flights)
		for k := i + 1; k < len(got); k++ {
			expect(t, "a result after a change of another one", got[k], api.OK, wanted[k], api.OK)
		}
	}
}

func TestPayloadsThatArriveTwice(t *testing.T) {
	l, _ := link.New(config(0, 0, 0))
	l, _, _ = link.Send(l, 1, []byte{1, 2}, []int{2})
	l.Flights[0].Payload[0] = 9
	_, payloads := link.Deliver(l, 1)
	payloads[0][1] = 8
	expectPayloads(t, "both arrivals", payloads, [][]byte{{9, 8}, {1, 2}})
}
