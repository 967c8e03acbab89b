package window_test

import (
	"fmt"
	"math"
	"slices"
	"testing"

	"standby/api"
	"standby/packet"
	"standby/window"
)

// random returns numbers from 0 to n - 1 that look random.
func random(seed uint32) func(n int) int {
	return func(n int) int {
		seed = seed*1664525 + 1013904223
		return int(seed>>8) % n
	}
}

// expect reports an error if a value is not the wanted one. Nil and empty slices are equal.
func expect(t *testing.T, what string, got, want any) {
	t.Helper()
	if g, w := fmt.Sprint(got), fmt.Sprint(want); g != w {
		t.Errorf("%s: got %s, want %s", what, short(g), short(w))
	}
}

// short is a beginning of a text.
func short(text string) string {
	return text[:min(len(text), 500)]
}

// load is the payload with a number.
func load(n int) []byte {
	return []byte{byte(n), 9, 8, 7}[:1+(n&3)]
}

// out is an outstanding payload that is not acknowledged.
func out(sequence, time, count int) api.Outstanding {
	return api.Outstanding{Sequence: sequence, Time: time, Count: count, Payload: load(sequence)}
}

// acked is an outstanding payload that is acknowledged.
func acked(o api.Outstanding) api.Outstanding {
	o.Acked = true
	return o
}

// copyOf is a copy of a sender that shares no memory with it.
func copyOf(s api.Sender) api.Sender {
	s.Outstanding = slices.Clone(s.Outstanding)
	for i, o := range s.Outstanding {
		s.Outstanding[i].Payload = slices.Clone(o.Payload)
	}
	s.Queue = slices.Clone(s.Queue)
	for i, p := range s.Queue {
		s.Queue[i] = slices.Clone(p)
	}
	return s
}

// queue is a queue of n payloads.
func queue(n int) [][]byte {
	var l [][]byte
	for i := range n {
		l = append(l, load(100+i))
	}
	return l
}

// ordinary is a sender in order.
func ordinary() api.Sender {
	return api.Sender{Session: 7, Limit: 4, Timeout: 10, Base: 5, Next: 8, Credit: 3, Outstanding: []api.Outstanding{out(5, 20, 1), acked(out(6, 3, 2)), out(7, 25, 1)}, Queue: queue(2)}
}

// randomSender is a sender in order with few numbers, of which some are at the ends of their ranges.
func randomSender(next func(int) int) api.Sender {
	s := api.Sender{Session: []int{0, 7, api.MaxTime}[next(3)], Limit: []int{1, 2, 3, 4, 64}[next(5)], Credit: []int{0, 1, 2, 3, 5, 64}[next(6)]}
	s.Timeout = []int{1, 2, 10, api.MaxTime}[next(4)]
	s.Base = []int{0, 1, 5, 1000, api.MaxTime - 4, api.MaxTime - 3, api.MaxTime - 2, api.MaxTime - 1, api.MaxTime}[next(9)]
	for i := range min(next(6), s.Limit, api.MaxTime-s.Base) {
		o := out(s.Base+i, []int{0, 1, 3, 10, 11, 20, api.MaxTime - 1, api.MaxTime}[next(8)], []int{1, 1, 1, 2, api.MaxTime - 1, api.MaxTime}[next(6)])
		o.Acked = i > 0 && next(3) == 0
		s.Outstanding = append(s.Outstanding, o)
	}
	s.Next = s.Base + len(s.Outstanding)
	s.Queue = queue(next(5))
	return s
}

// senders are senders that are in order.
func senders() []api.Sender {
	l := []api.Sender{
		ordinary(),
		{Limit: 1, Timeout: 1},
		{Session: api.MaxTime, Limit: api.MaxWindow, Timeout: api.MaxTime, Base: api.MaxTime, Next: api.MaxTime, Credit: api.MaxWindow},
		{Limit: 1, Timeout: 1, Outstanding: []api.Outstanding{}, Queue: queue(api.MaxSteps)},
		{Limit: 1, Timeout: 1, Queue: queue(api.MaxSteps - 1)},
		{Limit: 2, Timeout: 1, Queue: [][]byte{nil, {}, make([]byte, api.MaxPayload)}, Credit: 3},
		{Limit: 1, Timeout: 4, Next: 1, Outstanding: []api.Outstanding{{Count: api.MaxTime, Time: api.MaxTime, Payload: make([]byte, api.MaxPayload)}}},
	}
	full := api.Sender{Limit: api.MaxWindow, Timeout: 3, Credit: api.MaxWindow, Next: api.MaxWindow, Queue: queue(3)}
	for i := range api.MaxWindow {
		full.Outstanding = append(full.Outstanding, out(i, i, 1))
	}
	next := random(1)
	l = append(l, full)
	for range 1500 {
		l = append(l, randomSender(next))
	}
	return l
}

// fault makes a sender that is in order one that is not, with an error.
type fault struct {
	err    api.Errno
	change func(s *api.Sender)
}

// beyond are numbers outside of a range from 0 to most.
func beyond(most int) []int {
	return []int{math.MinInt, -1, most + 1, math.MaxInt}
}

// faults are ways to make a sender with at least three outstanding payloads and a queue one that is not in order, those of which the errors are found first before the others.
func faults() []fault {
	var l []fault
	add := func(err api.Errno, change func(s *api.Sender)) { l = append(l, fault{err, change}) }
	for _, x := range beyond(api.MaxTime) {
		add(api.ErrRange, func(s *api.Sender) { s.Session = x })
		add(api.ErrRange, func(s *api.Sender) { s.Timeout = x })
		add(api.ErrRange, func(s *api.Sender) { s.Base = x })
		add(api.ErrRange, func(s *api.Sender) { s.Next = x })
	}
	for _, x := range beyond(api.MaxWindow) {
		add(api.ErrRange, func(s *api.Sender) { s.Limit = x })
		add(api.ErrRange, func(s *api.Sender) { s.Credit = x })
	}
	add(api.ErrRange, func(s *api.Sender) { s.Limit = 0 })
	add(api.ErrRange, func(s *api.Sender) { s.Timeout = 0 })
	add(api.ErrMany, func(s *api.Sender) { s.Limit = 2 })
	add(api.ErrMany, func(s *api.Sender) { s.Queue = make([][]byte, api.MaxSteps+1) })
	for i := range 3 {
		for _, x := range []int{1, -1, 64, math.MinInt, math.MaxInt - api.MaxTime} {
			add(api.ErrForm, func(s *api.Sender) { s.Outstanding[i].Sequence += x })
		}
		for _, x := range append(beyond(api.MaxTime), 0) {
			add(api.ErrForm, func(s *api.Sender) { s.Outstanding[i].Count = x })
		}
		if i == 0 {
			add(api.ErrForm, func(s *api.Sender) { s.Outstanding[0].Acked = true })
		}
		for _, x := range beyond(api.MaxTime) {
			add(api.ErrTime, func(s *api.Sender) { s.Outstanding[i].Time = x })
		}
		add(api.ErrLong, func(s *api.Sender) { s.Outstanding[i].Payload = make([]byte, api.MaxPayload+1) })
	}
	for _, x := range []int{1, -1, 3, -3, 64} {
		add(api.ErrForm, func(s *api.Sender) { s.Next += x })
	}
	for i := range 2 {
		add(api.ErrLong, func(s *api.Sender) { s.Queue[i] = make([]byte, api.MaxPayload+1) })
	}
	return l
}

// wrong is a sender that is not in order, with the error of Check.
type wrong struct {
	s   api.Sender
	err api.Errno
}

// wrongSenders are senders with one or two faults.
func wrongSenders() []wrong {
	var l []wrong
	for i, first := range faults() {
		for _, second := range faults()[i:] {
			// The later ones are made first, so that they do not remove the earlier ones.
			s := ordinary()
			second.change(&s)
			first.change(&s)
			if first.err != api.ErrForm || window.CheckSender(s) != api.OK {
				l = append(l, wrong{s, first.err})
			}
		}
	}
	empty := api.Sender{Limit: 3, Timeout: 1, Next: 1}
	return append(l, wrong{api.Sender{}, api.ErrRange}, wrong{empty, api.ErrForm})
}

func TestP271CheckSender(t *testing.T) {
	for _, s := range senders() {
		if err := window.CheckSender(s); err != api.OK {
			t.Errorf("CheckSender of %v: got %d", s, err)
		}
	}
	for _, f := range faults() {
		s := ordinary()
		f.change(&s)
		if err := window.CheckSender(s); err != f.err {
			t.Errorf("CheckSender of %s: got %d, want %d", short(fmt.Sprint(s)), err, f.err)
		}
	}
	for _, x := range wrongSenders() {
		if err := window.CheckSender(x.s); err != x.err {
			t.Errorf("CheckSender of %s: got %d, want %d", short(fmt.Sprint(x.s)), err, x.err)
		}
	}
}

func TestP271New(t *testing.T) {
	times := append(beyond(api.MaxTime), 0, 1, 5, api.MaxTime-1, api.MaxTime)
	limits := append(beyond(api.MaxWindow), 0, 1, 2, api.MaxWindow-1, api.MaxWindow)
	for _, session := range times {
		for _, limit := range limits {
			fits := session >= 0 && session <= api.MaxTime && limit >= 1 && limit <= 64
			r, err := window.NewReceiver(session, limit)
			if fits {
				expect(t, "NewReceiver", []any{r, err}, []any{api.Receiver{Session: session, Limit: limit}, api.OK})
			} else {
				expect(t, "NewReceiver", []any{r, err}, []any{api.Receiver{}, api.ErrRange})
			}
			for _, timeout := range times {
				s, err := window.NewSender(session, limit, timeout)
				if fits && timeout >= 1 && timeout <= api.MaxTime {
					expect(t, "NewSender", []any{s, err}, []any{api.Sender{Session: session, Limit: limit, Timeout: timeout, Credit: limit}, api.OK})
				} else {
					expect(t, "NewSender", []any{s, err}, []any{api.Sender{}, api.ErrRange})
				}
			}
		}
	}
}

// early are payloads with some numbers.
func early(numbers ...int) []api.Arrived {
	var l []api.Arrived
	for _, n := range numbers {
		l = append(l, api.Arrived{Sequence: n, Payload: load(n)})
	}
	return l
}

// receivers are receivers that are in order.
func receivers() []api.Receiver {
	l := []api.Receiver{
		{Limit: 1},
		{Session: api.MaxTime, Limit: api.MaxWindow, Next: api.MaxTime, Early: []api.Arrived{}},
		{Limit: api.MaxWindow, Next: api.MaxTime - 2, Early: early(api.MaxTime - 1)},
		{Session: 7, Limit: 4, Next: 5, Early: early(6, 8)},
		{Limit: 2, Early: []api.Arrived{{Sequence: 1, Payload: make([]byte, api.MaxPayload)}}},
	}
	full := api.Receiver{Session: 2, Limit: api.MaxWindow, Next: 9}
	for i := range api.MaxWindow - 1 {
		full.Early = append(full.Early, early(10+i)...)
	}
	l = append(l, full)
	next := random(2)
	for range 400 {
		r := api.Receiver{Session: []int{0, 7}[next(2)], Limit: []int{1, 2, 3, 4, 6, 64}[next(6)], Next: []int{0, 1, 5, 1000, api.MaxTime - 4, api.MaxTime - 3, api.MaxTime - 2, api.MaxTime - 1, api.MaxTime}[next(9)]}
		for n := r.Next + 1; n < min(r.Next+r.Limit, api.MaxTime); n++ {
			if next(2) == 0 {
				r.Early = append(r.Early, early(n)...)
			}
		}
		l = append(l, r)
	}
	return l
}

// wrongReceiver is a receiver that is not in order, with the error of Check.
type wrongReceiver struct {
	r   api.Receiver
	err api.Errno
}

// wrongReceivers are receivers that are not in order.
func wrongReceivers() []wrongReceiver {
	var l []wrongReceiver
	add := func(err api.Errno, session, limit, next int, early ...api.Arrived) {
		l = append(l, wrongReceiver{api.Receiver{Session: session, Limit: limit, Next: next, Early: early}, err})
	}
	long := api.Arrived{Sequence: 6, Payload: make([]byte, api.MaxPayload+1)}
	for _, bad := range [][]api.Arrived{nil, early(6, 7), early(6, 7, 8, 9), early(5), {long}} {
		for _, x := range beyond(api.MaxTime) {
			add(api.ErrRange, x, 4, 5, bad...)
			add(api.ErrRange, 7, 4, x, bad...)
		}
		for _, x := range append(beyond(api.MaxWindow), 0) {
			add(api.ErrRange, 7, x, 5, bad...)
			add(api.ErrRange, -1, x, 5, bad...)
		}
	}
	add(api.ErrMany, 7, 4, 5, early(6, 7, 8, 9)...)
	add(api.ErrMany, 7, 4, 5, early(5, 5, 5, 5)...)
	add(api.ErrMany, 7, 1, 5, long)
	add(api.ErrMany, 7, 1, 5, early(6)...)
	add(api.ErrMany, 7, 64, 5, make([]api.Arrived, 64)...)
	for _, numbers := range [][]int{{5}, {4}, {9}, {10}, {6, 6}, {7, 6}, {6, 9}, {6, 5}, {8, 7}, {6, 8, 7}, {6, 7, 7}, {6, 7, 9}, {math.MinInt}, {math.MaxInt}, {6, math.MaxInt}, {6, math.MinInt}, {0}, {-1}} {
		add(api.ErrForm, 7, 4, 5, early(numbers...)...)
		add(api.ErrForm, 7, 4, 5, append(early(numbers...)[:len(numbers)-1], api.Arrived{Sequence: numbers[len(numbers)-1], Payload: long.Payload})...)
	}
	add(api.ErrForm, 7, 4, api.MaxTime-1, early(api.MaxTime)...)
	add(api.ErrForm, 7, 4, api.MaxTime-2, early(api.MaxTime)...)
	add(api.ErrForm, 7, 4, api.MaxTime-2, early(api.MaxTime-1, api.MaxTime)...)
	add(api.ErrForm, 7, 4, api.MaxTime, early(api.MaxTime+1)...)
	add(api.ErrForm, 7, 4, api.MaxTime, early(api.MaxTime)...)
	add(api.ErrForm, 7, 4, api.MaxTime, early(api.MaxTime-1)...)
	add(api.ErrLong, 7, 4, 5, long)
	add(api.ErrLong, 7, 4, 5, long, early(8)[0])
	add(api.ErrLong, 7, 4, 5, long, early(5)[0])
	add(api.ErrLong, 7, 4, 4, early(5)[0], long)
	add(api.ErrForm, 7, 4, 4, early(4)[0], long)
	return append(l, wrongReceiver{api.Receiver{}, api.ErrRange})
}

func TestP271CheckReceiver(t *testing.T) {
	for _, r := range receivers() {
		if err := window.CheckReceiver(r); err != api.OK {
			t.Errorf("CheckReceiver of %v: got %d", r, err)
		}
	}
	for _, x := range wrongReceivers() {
		if err := window.CheckReceiver(x.r); err != x.err {
			t.Errorf("CheckReceiver of %s: got %d, want %d", short(fmt.Sprint(x.r)), err, x.err)
		}
	}
}

func TestP271Push(t *testing.T) {
	payloads := [][]byte{nil, {1}, {1, 2, 3}, make([]byte, api.MaxPayload), make([]byte, api.MaxPayload+1), make([]byte, api.MaxPayload+100)}
	for i, s := range senders()[:300] {
		for _, p := range payloads {
			want, code := copyOf(s), api.OK
			want.Queue = append(want.Queue, p)
			switch {
			case len(p) > 4096:
				want, code = api.Sender{}, api.ErrLong
			case len(s.Queue) == 4096:
				want, code = api.Sender{}, api.ErrFull
			}
			if i >= 20 && len(p) > 3 {
				continue
			}
			got, err := window.Push(s, p)
			expect(t, "Push", []any{got, err}, []any{want, code})
		}
	}
	for _, x := range wrongSenders() {
		for _, p := range [][]byte{{1}, payloads[4]} {
			got, err := window.Push(x.s, p)
			expect(t, "Push to a sender that is not in order", []any{got, err}, []any{api.Sender{}, x.err})
		}
	}
}

func TestP271Unacknowledged(t *testing.T) {
	for _, s := range senders() {
		want := len(s.Queue) + len(s.Outstanding)
		for _, o := range s.Outstanding {
			if o.Acked {
				want--
			}
		}
		if got := window.Unacknowledged(s); got != want {
			t.Errorf("Unacknowledged of %v: got %d, want %d", s, got, want)
		}
	}
	for _, x := range wrongSenders() {
		if got := window.Unacknowledged(x.s); got != 0 {
			t.Errorf("Unacknowledged of a sender that is not in order: got %d", got)
		}
	}
}

// polled is what Poll has to return for a sender in order and a time, by the definitions.
func polled(s api.Sender, now int) (api.Sender, []api.Packet) {
	s = copyOf(s)
	var sent []api.Packet
	send := func(o api.Outstanding) {
		sent = append(sent, api.Packet{Session: s.Session, Sequence: o.Sequence, Payload: o.Payload})
	}
	for i := 0; i < len(s.Outstanding); i++ {
		if o := s.Outstanding[i]; !o.Acked && o.Time+s.Timeout <= now && o.Count != api.MaxTime {
			o.Time, o.Count = now, o.Count+1
			s.Outstanding[i] = o
			send(o)
		}
	}
	limit := s.Limit
	if s.Credit < limit {
		limit = s.Credit
	}
	for s.Next-s.Base < limit && s.Next != api.MaxTime && len(s.Queue) != 0 {
		o := api.Outstanding{Sequence: s.Next, Time: now, Count: 1, Payload: s.Queue[0]}
		s.Outstanding, s.Queue, s.Next = append(s.Outstanding, o), s.Queue[1:], s.Next+1
		send(o)
	}
	if s.Base == s.Next && s.Next != api.MaxTime && len(s.Queue) != 0 {
		sent = append(sent, api.Packet{Kind: api.PacketProbe, Session: s.Session, Sequence: s.Next})
	}
	return s, sent
}

func TestP272Poll(t *testing.T) {
	for _, s := range senders() {
		for _, now := range []int{0, 1, 2, 3, 9, 10, 11, 12, 13, 20, 21, 30, 1000, api.MaxTime - 1, api.MaxTime} {
			want, packets := polled(s, now)
			got, sent := window.Poll(s, now)
			expect(t, fmt.Sprintf("Poll of %s at %d", short(fmt.Sprint(s)), now), []any{got, sent}, []any{want, packets})
			for _, p := range sent {
				if packet.Check(p) != api.OK {
					t.Errorf("Poll sends %v", p)
				}
			}
		}
		for _, now := range beyond(api.MaxTime) {
			got, sent := window.Poll(s, now)
			expect(t, "Poll at no time", []any{got, sent}, []any{s, []api.Packet{}})
		}
	}
	for i, x := range wrongSenders() {
		for _, now := range []int{0, 1000, -1}[:1+i%3] {
			got, sent := window.Poll(x.s, now)
			expect(t, "Poll of a sender that is not in order", []any{got, sent}, []any{x.s, []api.Packet{}})
		}
	}
}

// contained reports whether one of a list of extents contains a number.
func contained(l []api.Extent, n int) bool {
	for _, e := range l {
		if n >= e.Start && n < e.Start+e.Count {
			return true
		}
	}
	return false
}

// ignored reports whether a sender in order has to ignore a packet at a time.
func ignored(s api.Sender, now int, p api.Packet) bool {
	if now < 0 || now > api.MaxTime || packet.Check(p) != api.OK || p.Kind != api.PacketAck || p.Session != s.Session || p.Ack < s.Base || p.Ack > s.Next {
		return true
	}
	for _, e := range p.Selective {
		if e.Start+e.Count > s.Next {
			return true
		}
	}
	return false
}

// acknowledged is what Ack has to return for a sender in order, by the definitions.
func acknowledged(s api.Sender, now int, p api.Packet) (api.Sender, int) {
	s = copyOf(s)
	if ignored(s, now, p) {
		return s, -1
	}
	greatest, base := -1, s.Next
	for number := s.Next - 1; number >= s.Base; number-- {
		o := &s.Outstanding[number-s.Base]
		if o.Acked {
			continue
		}
		if number >= p.Ack && !contained(p.Selective, number) {
			base = number
			continue
		}
		o.Acked = true
		if greatest < 0 && o.Count == 1 && o.Time <= now {
			greatest = number
		}
	}
	time := -1
	if greatest >= 0 {
		time = now - s.Outstanding[greatest-s.Base].Time
	}
	credit := s.Base + s.Credit
	if p.Ack+p.Credit > credit {
		credit = p.Ack + p.Credit
	}
	s.Outstanding = s.Outstanding[base-s.Base:]
	s.Base = base
	s.Credit = 0
	if credit > base {
		s.Credit = credit - base
	}
	return s, time
}

// randomAck is an acknowledgement of something near to what a sender has sent.
func randomAck(next func(int) int, s api.Sender) api.Packet {
	p := api.Packet{Kind: api.PacketAck, Session: s.Session, Ack: s.Base + next(s.Next-s.Base+3) - 1, Credit: []int{0, 1, 2, 5, 64}[next(5)]}
	if next(12) == 0 {
		p.Sequence = 3
	}
	for n := p.Ack + 1; n < s.Next+next(2)*next(2); n++ {
		switch last := len(p.Selective) - 1; {
		case next(2) == 0:
		case last >= 0 && p.Selective[last].Start+p.Selective[last].Count == n && next(20) > 0:
			p.Selective[last].Count++
		default:
			p.Selective = append(p.Selective, api.Extent{Start: n, Count: 1})
		}
	}
	return p
}

// times are times, and numbers that are none.
func times() []int {
	return append(beyond(api.MaxTime), 0, 1, 3, 5, 10, 12, 20, 21, 1000, api.MaxTime-1, api.MaxTime)
}

func expectAck(t *testing.T, s api.Sender, now int, p api.Packet) {
	t.Helper()
	want, time := acknowledged(s, now, p)
	got, sample := window.Ack(s, now, p)
	expect(t, fmt.Sprintf("Ack of %s at %d by %v", short(fmt.Sprint(s)), now, p), []any{got, sample}, []any{want, time})
	if err := window.CheckSender(got); err != api.OK {
		t.Errorf("a sender behind Ack is not in order: %d", err)
	}
}

func TestP272Ack(t *testing.T) {
	next := random(3)
	for _, s := range senders() {
		for range 25 {
			expectAck(t, s, times()[next(len(times()))], randomAck(next, s))
		}
	}
}

func TestP272AckOfOthers(t *testing.T) {
	var changes []func(p *api.Packet)
	add := func(change func(p *api.Packet)) { changes = append(changes, change) }
	for _, x := range []int{-1, 0, 1, 2, 3, math.MaxInt} {
		add(func(p *api.Packet) { p.Kind = x })
	}
	for _, x := range append(beyond(api.MaxTime), 0, 6, 7, 8) {
		add(func(p *api.Packet) { p.Session = x })
		add(func(p *api.Packet) { p.Sequence = x })
		add(func(p *api.Packet) { p.Ack = x })
	}
	for _, x := range append(beyond(api.MaxWindow), 0, 1, 64) {
		add(func(p *api.Packet) { p.Credit = x })
	}
	for _, x := range [][]api.Extent{{{Start: 6, Count: 1}}, {{Start: 7, Count: 1}}, {{Start: 7, Count: 2}}, {{Start: 8, Count: 1}}, {{Start: 7, Count: 0}}, {{Start: 5, Count: 1}}, {{Start: 6, Count: 1}, {Start: 7, Count: 1}}, {{Start: 7, Count: 1}, {Start: 6, Count: 1}}, {{Start: 6, Count: math.MaxInt}}, {{Start: math.MinInt, Count: math.MaxInt}}, {{Start: math.MaxInt, Count: 1}}} {
		add(func(p *api.Packet) { p.Selective = x })
	}
	add(func(p *api.Packet) { p.Payload = []byte{1} })
	add(func(p *api.Packet) { p.Payload = []byte{} })
	for _, first := range changes {
		for _, second := range changes {
			p := api.Packet{Kind: api.PacketAck, Session: 7, Ack: 5, Credit: 4, Selective: []api.Extent{{Start: 7, Count: 1}}}
			first(&p)
			second(&p)
			expectAck(t, ordinary(), 30, p)
		}
	}
	good := api.Packet{Kind: api.PacketAck, Session: 7, Ack: 6, Credit: 4}
	for _, x := range wrongSenders() {
		good.Session = x.s.Session
		got, sample := window.Ack(x.s, 30, good)
		expect(t, "Ack of a sender that is not in order", []any{got, sample}, []any{x.s, -1})
	}
}

// received is what Receive has to return for a receiver in order, by the definitions.
func received(r api.Receiver, p api.Packet) (api.Receiver, [][]byte, []api.Packet) {
	if packet.Check(p) != api.OK || p.Kind == api.PacketAck || p.Session != r.Session {
		return r, nil, nil
	}
	kept := make(map[int][]byte)
	for _, a := range r.Early {
		kept[a.Sequence] = a.Payload
	}
	if _, found := kept[p.Sequence]; p.Kind == api.PacketData && !found && p.Sequence >= r.Next && p.Sequence < r.Next+r.Limit && p.Sequence < api.MaxTime {
		kept[p.Sequence] = p.Payload
	}
	var delivered [][]byte
	end := r.Next + r.Limit
	for {
		payload, found := kept[r.Next]
		if !found {
			break
		}
		delivered = append(delivered, payload)
		r.Next++
	}
	r.Early = nil
	answer := api.Packet{Kind: api.PacketAck, Session: r.Session, Ack: r.Next, Credit: r.Limit}
	for n := r.Next; n < end; n++ {
		payload, found := kept[n]
		if !found {
			continue
		}
		r.Early = append(r.Early, api.Arrived{Sequence: n, Payload: payload})
		if _, before := kept[n-1]; !before {
			answer.Selective = append(answer.Selective, api.Extent{Start: n, Count: 1})
		} else {
			answer.Selective[len(answer.Selective)-1].Count++
		}
	}
	return r, delivered, []api.Packet{answer}
}

func expectReceived(t *testing.T, r api.Receiver, p api.Packet) {
	t.Helper()
	want, delivered, answers := received(r, p)
	got, payloads, packets := window.Receive(r, p)
	expect(t, fmt.Sprintf("Receive of %s by %s", short(fmt.Sprint(p)), short(fmt.Sprint(r))), []any{got, payloads, packets}, []any{want, delivered, answers})
	if err := window.CheckReceiver(got); err != api.OK {
		t.Errorf("a receiver behind Receive is not in order: %d", err)
	}
	for _, p := range packets {
		if err := packet.Check(p); err != api.OK {
			t.Errorf("an answer that packet refuses: %v", p)
		}
	}
}

func TestP272Receive(t *testing.T) {
	for _, r := range receivers() {
		for n := r.Next - 2; n <= r.Next+r.Limit+1; n++ {
			if r.Limit == api.MaxWindow && n%5 > 1 && n > r.Next+3 && n < r.Next+62 {
				continue
			}
			expectReceived(t, r, api.Packet{Session: r.Session, Sequence: n, Payload: load(77)})
			expectReceived(t, r, api.Packet{Kind: api.PacketProbe, Session: r.Session, Sequence: n})
		}
	}
	for _, r := range receivers()[:24] {
		for _, n := range append(beyond(api.MaxTime), 0, 1, 9, r.Next) {
			for _, p := range []api.Packet{
				{Sequence: n}, {Sequence: n, Payload: make([]byte, api.MaxPayload)}, {Sequence: n, Payload: make([]byte, api.MaxPayload+1)}, {Sequence: n, Ack: 3, Credit: 2}, {Sequence: n, Credit: 65}, {Sequence: n, Ack: -1},
				{Sequence: n, Selective: []api.Extent{{Start: 3, Count: 1}}}, {Sequence: n, Selective: []api.Extent{{Start: 0, Count: 1}}},
				{Kind: api.PacketProbe, Sequence: n}, {Kind: api.PacketProbe, Sequence: n, Payload: []byte{1}}, {Kind: api.PacketAck, Sequence: n}, {Kind: 3, Sequence: n}, {Kind: -1, Sequence: n},
			} {
				for _, session := range []int{r.Session, r.Session - 1, r.Session + 1, 0, 7, -1} {
					p.Session = session
					expectReceived(t, r, p)
				}
			}
		}
	}
	for _, x := range wrongReceivers() {
		for _, kind := range []int{api.PacketData, api.PacketProbe} {
			for _, n := range []int{5, 6, 7, x.r.Next} {
				got, payloads, packets := window.Receive(x.r, api.Packet{Kind: kind, Session: x.r.Session, Sequence: n})
				expect(t, "Receive of a receiver that is not in order", []any{got, payloads, packets}, []any{x.r, [][]byte{}, []api.Packet{}})
			}
		}
	}
}

func TestP272Examples(t *testing.T) {
	s, _ := window.NewSender(7, 2, 10)
	r, _ := window.NewReceiver(7, 2)
	for _, payload := range []string{"a", "b", "c"} {
		s, _ = window.Push(s, []byte(payload))
	}
	data := func(n int, payload string) api.Packet {
		return api.Packet{Kind: api.PacketData, Session: 7, Sequence: n, Payload: []byte(payload)}
	}
	s, sent := window.Poll(s, 0)
	expect(t, "Poll at 0", sent, []api.Packet{data(0, "a"), data(1, "b")})
	s, sent = window.Poll(s, 5)
	expect(t, "Poll at 5", sent, []api.Packet{})
	r, payloads, late := window.Receive(r, data(1, "b"))
	expect(t, "Receive of b", []any{payloads, late}, []any{[][]byte{}, []api.Packet{{Kind: api.PacketAck, Session: 7, Ack: 0, Credit: 2, Selective: []api.Extent{{Start: 1, Count: 1}}}}})
	s, sample := window.Ack(s, 8, late[0])
	expect(t, "Ack at 8", []int{sample, s.Base}, []int{8, 0})
	s, sent = window.Poll(s, 10)
	expect(t, "Poll at 10", sent, []api.Packet{data(0, "a")})
	r, payloads, answer := window.Receive(r, data(0, "a"))
	expect(t, "Receive of a", []any{payloads, answer}, []any{[][]byte{[]byte("a"), []byte("b")}, []api.Packet{{Kind: api.PacketAck, Session: 7, Ack: 2, Credit: 2}}})
	s, sample = window.Ack(s, 13, answer[0])
	expect(t, "Ack at 13", []int{sample, s.Base}, []int{-1, 2})
	s, sent = window.Poll(s, 13)
	expect(t, "Poll at 13", sent, []api.Packet{data(2, "c")})
	again, payloads, answer := window.Receive(r, data(0, "a"))
	expect(t, "Receive of a again", []any{again, payloads, answer}, []any{r, [][]byte{}, []api.Packet{{Kind: api.PacketAck, Session: 7, Ack: 2, Credit: 2}}})
	behind, sample := window.Ack(s, 14, late[0])
	expect(t, "Ack 0 that comes late", []any{behind, sample}, []any{s, -1})
}

// state is a state of a sender and a receiver, and of the packets between them.
type state struct {
	s         api.Sender
	r         api.Receiver
	polls     int
	delivered [][]byte
	// sent are all packets that were sent. Each of them may arrive at any time, never, or more than once.
	sent []api.Packet
}

func (x state) key() string {
	return fmt.Sprint(x)
}

// with is a state in which packets were sent besides.
func (x state) with(packets []api.Packet) state {
	x.sent = slices.Clone(x.sent)
	for _, p := range packets {
		if !slices.ContainsFunc(x.sent, func(q api.Packet) bool { return fmt.Sprint(p) == fmt.Sprint(q) }) {
			x.sent = append(x.sent, p)
		}
	}
	slices.SortFunc(x.sent, func(p, q api.Packet) int { return slices.Compare([]byte(fmt.Sprint(p)), []byte(fmt.Sprint(q))) })
	return x
}

// poll is the state behind a Poll.
func (x state) poll(now int) state {
	s, packets := window.Poll(x.s, now)
	x.s = s
	return x.with(packets)
}

// arrive is the state behind the arrival of a packet.
func (x state) arrive(now int, p api.Packet) state {
	if p.Kind == api.PacketAck {
		x.s, _ = window.Ack(x.s, now, p)
		return x
	}
	r, payloads, answers := window.Receive(x.r, p)
	x.r, x.delivered = r, append(slices.Clone(x.delivered), payloads...)
	return x.with(answers)
}

// expectConsequences reports an error if something holds no more that always has to hold.
func (x state) expectConsequences(t *testing.T, pushed [][]byte) {
	t.Helper()
	if window.CheckSender(x.s) != api.OK || window.CheckReceiver(x.r) != api.OK {
		t.Errorf("not in order: %v", x)
	}
	if n := len(x.delivered); n > len(pushed) || fmt.Sprint(x.delivered) != fmt.Sprint(pushed[:n]) {
		t.Errorf("delivered: %v", x)
	}
	if x.s.Base > x.r.Next || x.r.Next > x.s.Next {
		t.Errorf("the numbers of the sender and the receiver: %v", x)
	}
}

// expectCompletion reports an error if not everything is delivered when packets are delivered for a while.
func (x state) expectCompletion(t *testing.T, now int, pushed [][]byte) {
	t.Helper()
	for range len(pushed) + 2 {
		x.sent = nil
		x = x.poll(now)
		for _, p := range x.sent {
			if p.Kind != api.PacketAck {
				x = x.arrive(now, p)
			}
		}
		for _, p := range x.sent {
			x = x.arrive(now, p)
		}
		now += x.s.Timeout
	}
	if fmt.Sprint(x.delivered) != fmt.Sprint(pushed) || window.Unacknowledged(x.s) != 0 {
		t.Errorf("what is not delivered: %v", x)
	}
}

// began is a state in which payloads were pushed and nothing was sent.
func began(limit, room int, pushed [][]byte) state {
	var x state
	x.s, _ = window.NewSender(7, limit, 10)
	x.r, _ = window.NewReceiver(7, room)
	for _, p := range pushed {
		x.s, _ = window.Push(x.s, p)
	}
	return x
}

// TestP273Everything looks at everything that can happen when each packet may arrive, late and more than once, or not.
func TestP273Everything(t *testing.T) {
	for limit := 1; limit <= 3; limit++ {
		for room := 1; room <= 3; room++ {
			pushed := [][]byte{{1}, {2, 2}, {}, {1}, {3}}
			todo := []state{began(limit, room, pushed)}
			seen := map[string]bool{todo[0].key(): true}
			for len(todo) > 0 {
				x := todo[0]
				todo = todo[1:]
				now := 10 * x.polls
				x.expectConsequences(t, pushed)
				x.expectCompletion(t, now, pushed)
				var next []state
				if x.polls < 5 {
					y := x.poll(now)
					y.polls++
					next = append(next, y)
				}
				for _, p := range x.sent {
					next = append(next, x.arrive(now, p))
					p.Session++
					if y := x.arrive(now, p); y.key() != x.key() {
						t.Errorf("a packet of another session: %v becomes %v", x, y)
					}
				}
				for _, y := range next {
					if !seen[y.key()] {
						seen[y.key()] = true
						todo = append(todo, y)
					}
				}
			}
		}
	}
}

// TestP273Random sends many payloads by a way that loses, repeats and reorders packets.
func TestP273Random(t *testing.T) {
	next := random(4)
	for range 30 {
		pushed := queue(next(200))
		x := began(1+next(64), 1+next(64), pushed)
		now, way := 0, []api.Packet{}
		for range 800 {
			now += next(4)
			s, packets := window.Poll(x.s, now)
			x.s, way = s, append(way, packets...)
			if len(way) == 0 {
				continue
			}
			i := next(len(way))
			p := way[i]
			if next(5) > 0 {
				way = slices.Delete(way, i, i+1)
			}
			if next(5) > 0 {
				x.sent = nil
				x = x.arrive(now, p)
				way = append(way, x.sent...)
				x.expectConsequences(t, pushed)
			}
		}
		x.expectCompletion(t, now, pushed)
	}
}

// argument is a sender with spare capacity everywhere.
func argument() api.Sender {
	s := ordinary()
	for i, o := range s.Outstanding {
		s.Outstanding[i].Payload = append(slices.Clone(o.Payload), 1, 2, 3)[:len(o.Payload)]
	}
	s.Outstanding = append(s.Outstanding, out(50, 1, 1), out(51, 1, 1))[:3]
	s.Queue = append(s.Queue, load(60), load(61))[:2]
	return s
}

// whole is everything that a sender reaches, with the spare capacity.
func whole(s api.Sender) string {
	text := fmt.Sprint(s)
	for _, o := range s.Outstanding[:cap(s.Outstanding)] {
		text += fmt.Sprint(o, o.Payload[:cap(o.Payload)])
	}
	for _, p := range s.Queue[:cap(s.Queue)] {
		text += fmt.Sprint(p, p[:cap(p)])
	}
	return text
}

// spoil changes everything that a sender reaches.
func spoil(s api.Sender) {
	spoilPayloads(s.Queue)
	for i, o := range s.Outstanding[:cap(s.Outstanding)] {
		spoilPayloads([][]byte{o.Payload})
		s.Outstanding[:cap(s.Outstanding)][i] = api.Outstanding{Sequence: -5}
	}
}

func spoilPayloads(l [][]byte) {
	for i, p := range l[:cap(l)] {
		p = p[:cap(p)]
		for k := range p {
			p[k] = 255
		}
		l[:cap(l)][i] = nil
	}
}

func spoilPackets(l []api.Packet) {
	for i, p := range l[:cap(l)] {
		spoilPayloads([][]byte{p.Payload})
		clear(p.Selective[:cap(p.Selective)])
		l[:cap(l)][i] = api.Packet{}
	}
}

// senderResults are the senders, with and without changes, that functions return for a sender and a payload, and the packets that are sent.
func senderResults(s api.Sender, payload []byte) ([]api.Sender, []api.Packet) {
	pushed, _ := window.Push(s, payload)
	polled, packets := window.Poll(s, 30)
	late, none := window.Poll(s, -1)
	ack := api.Packet{Kind: api.PacketAck, Session: 7, Ack: 5, Credit: 4, Selective: []api.Extent{{Start: 7, Count: 1}}}
	marked, _ := window.Ack(s, 30, ack)
	ignored, _ := window.Ack(s, -1, ack)
	ack.Ack, ack.Selective = 6, nil
	advanced, _ := window.Ack(s, 30, ack)
	return []api.Sender{pushed, polled, late, marked, ignored, advanced}, append(packets, none...)
}

func TestValues(t *testing.T) {
	s, payload := argument(), []byte{1, 2, 3, 4}
	got, packets := senderResults(s, payload[:2])
	wanted, wantedPackets := senderResults(argument(), []byte{1, 2})
	if whole(s) != whole(argument()) || !slices.Equal(payload, []byte{1, 2, 3, 4}) {
		t.Errorf("the arguments are modified: %v, %v", s, payload)
	}
	spoil(s)
	clear(payload)
	for i := range got {
		expect(t, "packets", packets, wantedPackets)
		expect(t, "a sender after a change of others", got[i], wanted[i])
		spoil(got[i])
	}
	expect(t, "packets", packets, wantedPackets)
	got, packets = senderResults(argument(), []byte{1, 2})
	spoilPackets(packets)
	expect(t, "senders after a change of the packets", got, wanted)
}

// receiverArgument is a receiver and a packet with spare capacity everywhere.
func receiverArgument(sequence int) (api.Receiver, api.Packet) {
	r := api.Receiver{Session: 7, Limit: 5, Next: 5, Early: early(6, 8, 100, 101)[:2]}
	for i, a := range r.Early {
		r.Early[i].Payload = append(slices.Clone(a.Payload), 1, 2, 3)[:len(a.Payload)]
	}
	return r, api.Packet{Session: 7, Sequence: sequence, Payload: []byte{1, 2, 3, 4}[:2]}
}

func spoilReceiver(r api.Receiver) {
	for i, a := range r.Early[:cap(r.Early)] {
		spoilPayloads([][]byte{a.Payload})
		r.Early[:cap(r.Early)][i] = api.Arrived{Sequence: -5}
	}
}

func TestValuesOfReceivers(t *testing.T) {
	for _, sequence := range []int{4, 5, 6, 7, 9, -1} {
		r, p := receiverArgument(sequence)
		after, payloads, packets := window.Receive(r, p)
		same, fresh := receiverArgument(sequence)
		expect(t, "the arguments", []any{r.Early[:4], r.Early[0].Payload[:3], p.Payload[:4]}, []any{same.Early[:4], same.Early[0].Payload[:3], fresh.Payload[:4]})
		want, wantedPayloads, wantedPackets := window.Receive(same, fresh)
		spoilReceiver(r)
		spoilPayloads([][]byte{p.Payload})
		expect(t, "results after a change of the arguments", []any{after, payloads, packets}, []any{want, wantedPayloads, wantedPackets})
		spoilPayloads(payloads)
		expect(t, "results after a change of the payloads", []any{after, packets}, []any{want, wantedPackets})
		spoilReceiver(after)
		expect(t, "packets after a change of the receiver", packets, wantedPackets)
	}
}
