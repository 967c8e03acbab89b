package session_test

import (
	"math"
	"slices"
	"testing"

	"standby/api"
	"standby/session"
)

// random returns numbers from 0 to n - 1 that look random.
func random(seed uint32) func(n int) int {
	return func(n int) int {
		seed = seed*1664525 + 1013904223
		return int(seed>>8) % n
	}
}

func sameMessage(a, b api.Message) bool {
	return a.Kind == b.Kind && a.From == b.From && a.To == b.To && a.Number == b.Number && a.Value == b.Value && a.Epoch == b.Epoch && slices.Equal(a.Values, b.Values) && slices.Equal(a.Body, b.Body)
}

// sent is the message of a kind that a session sends; none for the kind 0.
func sent(s api.Session, kind int) []api.Message {
	if kind == 0 {
		return nil
	}
	return []api.Message{{Kind: kind, From: s.Local, To: s.Remote, Number: s.Number, Epoch: s.Epoch}}
}

// expect reports a session or messages that are not the wanted ones.
func expect(t *testing.T, what string, got api.Session, messages []api.Message, want api.Session, wanted []api.Message) {
	t.Helper()
	if got != want || !slices.EqualFunc(messages, wanted, sameMessage) {
		t.Errorf("%s: got %v, %v, want %v, %v", what, got, messages, want, wanted)
	}
}

// numbers are numbers that an Epoch or a Number can be.
func numbers() []int {
	return []int{0, 1, 2, 5, 6, 7, api.MaxTime - 1, api.MaxTime}
}

// beyond are numbers that are no times.
func beyond() []int {
	return []int{-1, api.MaxTime + 1, math.MinInt, math.MaxInt, 1 << 53}
}

// sessions are sessions in order, in all their phases.
func sessions() []api.Session {
	var l []api.Session
	for _, sites := range [][2]int{{0, 1}, {1, 0}, {3, 2}} {
		for _, epoch := range numbers() {
			for _, number := range numbers() {
				s := api.Session{Local: sites[0], Remote: sites[1], Epoch: epoch, Number: number}
				for s.Phase = range 3 {
					l = append(l, s)
				}
				s.Phase = api.PhaseOpening
				for _, s.Deadline = range []int{1, 20, api.MaxTime - 1, api.MaxTime} {
					l = append(l, s)
				}
			}
		}
	}
	return l
}

// fault is a change that brings a session out of order, with the error of Check.
type fault struct {
	change func(s *api.Session)
	err    api.Errno
}

// faults are in the order in which they are found; the deadline is found last.
func faults() []fault {
	var l []fault
	add := func(err api.Errno, change func(s *api.Session)) { l = append(l, fault{change, err}) }
	for _, x := range []int{4, -1, math.MinInt, math.MaxInt} {
		add(api.ErrRange, func(s *api.Session) { s.Local = x })
		add(api.ErrRange, func(s *api.Session) { s.Remote = x })
		add(api.ErrRange, func(s *api.Session) { s.Local, s.Remote = x, x })
	}
	for site := range 4 {
		add(api.ErrArg, func(s *api.Session) { s.Local, s.Remote = site, site })
	}
	for _, x := range beyond() {
		add(api.ErrRange, func(s *api.Session) { s.Epoch = x })
		add(api.ErrRange, func(s *api.Session) { s.Number = x })
	}
	for _, x := range []int{3, -1, math.MinInt, math.MaxInt} {
		add(api.ErrState, func(s *api.Session) { s.Phase = x })
	}
	for _, x := range beyond() {
		add(api.ErrTime, func(s *api.Session) { s.Deadline = x })
		add(api.ErrTime, func(s *api.Session) { s.Phase, s.Deadline = api.PhaseOpening, x })
	}
	for _, x := range []int{1, 20, api.MaxTime} {
		add(api.ErrTime, func(s *api.Session) { s.Phase, s.Deadline = api.PhaseClosed, x })
		add(api.ErrTime, func(s *api.Session) { s.Phase, s.Deadline = api.PhaseOpen, x })
	}
	return l
}

// wrongSession is a session that is not in order, with the error of Check.
type wrongSession struct {
	s   api.Session
	err api.Errno
}

// wrongSessions are sessions with one or two faults.
func wrongSessions() []wrongSession {
	var l []wrongSession
	for phase := range 3 {
		for i, first := range faults() {
			for _, second := range faults()[i:] {
				// The later ones are made first, so that they do not remove the earlier ones.
				s := api.Session{Local: 2, Remote: 0, Epoch: 3, Number: 4, Phase: phase}
				second.change(&s)
				first.change(&s)
				l = append(l, wrongSession{s, first.err})
			}
		}
	}
	return l
}

func TestP261Check(t *testing.T) {
	for _, s := range sessions() {
		if err := session.Check(s); err != api.OK {
			t.Errorf("Check of %v: got %d", s, err)
		}
	}
	for _, x := range wrongSessions() {
		if err := session.Check(x.s); err != x.err {
			t.Errorf("Check of %v: got %d, want %d", x.s, err, x.err)
		}
	}
	if err := session.Check(api.Session{}); err != api.ErrArg {
		t.Errorf("Check of the zero session: got %d", err)
	}
}

func TestP261New(t *testing.T) {
	check := func(local, remote, epoch, number int, code api.Errno) {
		t.Helper()
		want := api.Session{}
		if code == api.OK {
			want = api.Session{Local: local, Remote: remote, Epoch: epoch, Number: number}
		}
		if got, err := session.New(local, remote, epoch, number); err != code || got != want {
			t.Errorf("New(%d, %d, %d, %d): got %v, %d, want %d", local, remote, epoch, number, got, err, code)
		}
	}
	for local := range 4 {
		for remote := range 4 {
			for _, epoch := range numbers() {
				for _, number := range numbers() {
					code := api.OK
					if local == remote {
						code = api.ErrArg
					}
					check(local, remote, epoch, number, code)
				}
			}
		}
	}
	for _, x := range beyond() {
		for _, y := range append(beyond(), 0, 3) {
			check(x, y, y, y, api.ErrRange)
			check(y, x, x, y, api.ErrRange)
			check(2, 2, x, y, api.ErrArg)
			check(2, 3, x, y, api.ErrRange)
			check(2, 3, y, x, api.ErrRange)
		}
	}
	check(4, 0, 0, 0, api.ErrRange)
	check(0, 4, 0, 0, api.ErrRange)
	check(4, 4, 0, 0, api.ErrRange)
}

// times are pairs of a time and a patience, with the error that they have.
func times() map[[2]int]api.Errno {
	return map[[2]int]api.Errno{
		{0, 0}: api.OK, {0, 1}: api.OK, {7, 0}: api.OK, {7, 20}: api.OK, {0, api.MaxTime}: api.OK, {api.MaxTime, 0}: api.OK, {5, api.MaxTime - 5}: api.OK, {api.MaxTime - 1, 1}: api.OK,
		{-1, 0}: api.ErrTime, {-1, 1}: api.ErrTime, {-5, 20}: api.ErrTime, {math.MinInt, 5}: api.ErrTime, {math.MinInt, math.MaxInt}: api.ErrTime,
		{0, -1}: api.ErrTime, {20, -5}: api.ErrTime, {5, math.MinInt}: api.ErrTime, {math.MaxInt, math.MinInt}: api.ErrTime, {math.MaxInt, -math.MaxInt}: api.ErrTime,
		{api.MaxTime, 1}: api.ErrTime, {1, api.MaxTime}: api.ErrTime, {api.MaxTime, api.MaxTime}: api.ErrTime, {0, api.MaxTime + 1}: api.ErrTime, {api.MaxTime + 1, 0}: api.ErrTime, {api.MaxTime + 1, -1}: api.ErrTime, {-1, api.MaxTime + 1}: api.ErrTime,
		{math.MaxInt, 0}: api.ErrTime, {math.MaxInt, 1}: api.ErrTime, {1, math.MaxInt}: api.ErrTime, {0, math.MaxInt}: api.ErrTime, {math.MaxInt, math.MaxInt}: api.ErrTime, {math.MinInt, math.MinInt}: api.ErrTime,
	}
}

func TestP261Dial(t *testing.T) {
	check := func(s api.Session, time [2]int, code api.Errno) {
		t.Helper()
		want, kind := api.Session{}, 0
		if code == api.OK {
			want, kind = s, api.MsgHello
			want.Number, want.Phase, want.Deadline = s.Number+1, api.PhaseOpening, time[0]+time[1]
		}
		got, messages, err := session.Dial(s, time[0], time[1])
		expect(t, "Dial", got, messages, want, sent(want, kind))
		if err != code {
			t.Errorf("Dial of %v at %v: got %d, want %d", s, time, err, code)
		}
	}
	for time, code := range times() {
		for _, s := range sessions() {
			want := code
			if s.Phase != api.PhaseClosed {
				want = api.ErrBusy
			} else if code == api.OK && s.Number == api.MaxTime {
				want = api.ErrFull
			}
			check(s, time, want)
		}
		for _, x := range wrongSessions() {
			check(x.s, time, x.err)
		}
	}
}

func TestP261Expire(t *testing.T) {
	var pairs [][2]int
	for time := range times() {
		pairs = append(pairs, time)
	}
	for _, now := range []int{0, 1, 2, 19, 20, 21, api.MaxTime - 1, api.MaxTime, api.MaxTime + 1} {
		for _, patience := range []int{-1, 0, 1, 9} {
			pairs = append(pairs, [2]int{now, patience})
		}
	}
	for _, time := range pairs {
		now, patience := time[0], time[1]
		for _, s := range sessions() {
			want, kind := s, 0
			if s.Phase == api.PhaseOpening && now >= s.Deadline {
				// The differences are small, since now is not negative.
				if patience >= 0 && patience <= api.MaxTime-now {
					want.Deadline, kind = now+patience, api.MsgHello
				} else {
					want.Phase, want.Deadline = api.PhaseClosed, 0
				}
			}
			got, messages := session.Expire(s, now, patience)
			expect(t, "Expire", got, messages, want, sent(want, kind))
		}
		for _, x := range wrongSessions() {
			got, messages := session.Expire(x.s, now, patience)
			expect(t, "Expire of a session that is not in order", got, messages, x.s, nil)
		}
	}
}

func TestP261Close(t *testing.T) {
	for _, s := range sessions() {
		want, kind := s, 0
		if s.Phase != api.PhaseClosed {
			want.Phase, want.Deadline, kind = api.PhaseClosed, 0, api.MsgReset
		}
		got, messages := session.Close(s)
		expect(t, "Close", got, messages, want, sent(want, kind))
	}
	for _, x := range wrongSessions() {
		got, messages := session.Close(x.s)
		expect(t, "Close of a session that is not in order", got, messages, x.s, nil)
	}
}

func TestP261Accepts(t *testing.T) {
	check := func(s api.Session, number, epoch int, want api.Errno) {
		t.Helper()
		if got := session.Accepts(s, number, epoch); got != want {
			t.Errorf("Accepts of %v for the number %d and the epoch %d: got %d, want %d", s, number, epoch, got, want)
		}
	}
	all := append(numbers(), beyond()...)
	for _, s := range sessions() {
		for _, number := range all {
			for _, epoch := range all {
				want := api.OK
				switch {
				case s.Phase != api.PhaseOpen:
					want = api.ErrState
				case number < s.Number || epoch < s.Epoch:
					want = api.ErrEpoch
				case number != s.Number || epoch != s.Epoch:
					want = api.ErrArg
				}
				check(s, number, epoch, want)
			}
		}
	}
	for _, x := range wrongSessions() {
		for _, number := range []int{4, 3, 5, -1} {
			check(x.s, number, 3, x.err)
			check(x.s, number, x.s.Epoch, x.err)
			check(x.s, x.s.Number, number, x.err)
		}
	}
}

// The relations of the number of a message to that of a session.
const (
	smaller = iota
	equal
	greater
)

// situation is a message of the session's own epoch that a session in a phase receives.
type situation struct{ kind, relation, phase int }

// outcome is what comes of it: the phase behind it, and the kind of the answer.
type outcome struct{ phase, answer int }

// outcomes are those of all situations in which something happens, as the chapter lists them.
func outcomes() map[situation]outcome {
	closed, opening, open := api.PhaseClosed, api.PhaseOpening, api.PhaseOpen
	return map[situation]outcome{
		{api.MsgHello, greater, closed}:  {open, api.MsgWelcome},
		{api.MsgHello, greater, opening}: {open, api.MsgWelcome},
		{api.MsgHello, greater, open}:    {open, api.MsgWelcome},
		{api.MsgHello, equal, closed}:    {closed, api.MsgReset},
		{api.MsgHello, equal, opening}:   {open, api.MsgWelcome},
		{api.MsgHello, equal, open}:      {open, api.MsgWelcome},
		{api.MsgHello, smaller, closed}:  {closed, api.MsgReset},
		{api.MsgWelcome, equal, opening}: {open, 0},
		{api.MsgWelcome, equal, closed}:  {closed, api.MsgReset},
		{api.MsgReset, equal, opening}:   {closed, 0},
		{api.MsgReset, equal, open}:      {closed, 0},
		{api.MsgReset, greater, closed}:  {closed, 0},
		{api.MsgReset, greater, opening}: {closed, 0},
		{api.MsgReset, greater, open}:    {closed, 0},
	}
}

// concerns reports whether a session in order looks at a message at all.
func concerns(s api.Session, m api.Message) bool {
	kinds := []int{api.MsgHello, api.MsgWelcome, api.MsgReset}
	return m.From == s.Remote && m.To == s.Local && m.Epoch >= 0 && m.Epoch <= 1<<30 && m.Number >= 0 && m.Number <= 1<<30 && slices.Contains(kinds, m.Kind)
}

// received is what Receive has to return for a session in order, by the definitions.
func received(all map[situation]outcome, s api.Session, m api.Message) (api.Session, []api.Message) {
	if !concerns(s, m) {
		return s, nil
	}
	if m.Epoch < s.Epoch {
		if m.Kind == api.MsgHello {
			return s, sent(s, api.MsgReset)
		}
		return s, nil
	}
	if m.Epoch > s.Epoch {
		s.Epoch, s.Phase, s.Deadline = m.Epoch, api.PhaseClosed, 0
	}
	x := situation{m.Kind, equal, s.Phase}
	if m.Number < s.Number {
		x.relation = smaller
	} else if m.Number > s.Number {
		x.relation = greater
	}
	y, found := all[x]
	if !found {
		return s, nil
	}
	s.Number, s.Phase, s.Deadline = max(s.Number, m.Number), y.phase, 0
	return s, sent(s, y.answer)
}

func TestP262Receive(t *testing.T) {
	table := outcomes()
	all := append(numbers(), beyond()...)
	for _, s := range sessions() {
		for _, number := range all {
			for _, epoch := range all {
				for kind := range 30 {
					m := api.Message{Kind: kind - 1, From: s.Remote, To: s.Local, Number: number, Epoch: epoch}
					want, wanted := received(table, s, m)
					got, messages := session.Receive(s, 30, m)
					expect(t, "Receive", got, messages, want, wanted)
				}
			}
		}
	}
}

func TestP262ReceiveOthers(t *testing.T) {
	for _, s := range sessions() {
		for _, kind := range []int{api.MsgHello, api.MsgWelcome, api.MsgReset} {
			for _, number := range []int{s.Number - 1, s.Number, s.Number + 1} {
				for _, epoch := range []int{s.Epoch - 1, s.Epoch, s.Epoch + 1} {
					for _, sites := range [][2]int{{s.Local, s.Remote}, {s.Remote, s.Remote}, {s.Local, s.Local}, {s.Remote, -1}, {-1, s.Local}, {s.Remote, 4}, {4, s.Local}, {math.MaxInt, s.Local}, {s.Remote, math.MinInt}, {6 - s.Remote - s.Local, s.Local}, {s.Remote, 6 - s.Remote - s.Local}} {
						m := api.Message{Kind: kind, From: sites[0], To: sites[1], Number: number, Epoch: epoch}
						got, messages := session.Receive(s, 30, m)
						expect(t, "Receive of a message for others", got, messages, s, nil)
					}
				}
			}
		}
		for _, kind := range []int{math.MinInt, math.MinInt + 5, math.MinInt + 6, math.MaxInt, math.MaxInt - 1, -5, -1, 256 + 5, 1<<32 + 6} {
			m := api.Message{Kind: kind, From: s.Remote, To: s.Local, Number: s.Number, Epoch: s.Epoch}
			got, messages := session.Receive(s, 30, m)
			expect(t, "Receive of another kind", got, messages, s, nil)
			m.Epoch, m.Number = min(m.Epoch+1, api.MaxTime), min(m.Number+1, api.MaxTime)
			got, messages = session.Receive(s, 30, m)
			expect(t, "Receive of another kind", got, messages, s, nil)
		}
	}
}

func TestP262ReceiveNotInOrder(t *testing.T) {
	for _, x := range wrongSessions() {
		for _, kind := range []int{api.MsgHello, api.MsgWelcome, api.MsgReset} {
			for _, number := range []int{x.s.Number, 3, 4, 5} {
				for _, epoch := range []int{x.s.Epoch, 2, 3, 4} {
					m := api.Message{Kind: kind, From: x.s.Remote, To: x.s.Local, Number: number, Epoch: epoch}
					got, messages := session.Receive(x.s, 30, m)
					expect(t, "Receive of a session that is not in order", got, messages, x.s, nil)
				}
			}
		}
	}
}

// Neither the time nor the fields that messages of sessions do not have are looked at.
func TestP262ReceiveAtAnyTime(t *testing.T) {
	table := outcomes()
	next := random(262)
	all := sessions()
	for range 20000 {
		s := all[next(len(all))]
		m := api.Message{Kind: 5 + next(3), From: s.Remote, To: s.Local, Number: s.Number + next(3) - 1, Epoch: s.Epoch + next(3) - 1}
		want, wanted := received(table, s, m)
		m.Value, m.Values, m.Body = next(3)-1, make([]int, next(2)), make([]byte, next(2))
		for _, now := range []int{0, s.Deadline, -1, math.MinInt, math.MaxInt} {
			got, messages := session.Receive(s, now, m)
			expect(t, "Receive", got, messages, want, wanted)
		}
	}
}

func TestP262Examples(t *testing.T) {
	a, _ := session.New(0, 1, 2, 4)
	b, _ := session.New(1, 0, 2, 6)
	a, first, err := session.Dial(a, 0, 5)
	expect(t, "Dial", a, first, api.Session{Local: 0, Remote: 1, Epoch: 2, Number: 5, Phase: api.PhaseOpening, Deadline: 5}, []api.Message{{Kind: api.MsgHello, From: 0, To: 1, Number: 5, Epoch: 2}})
	b, l := session.Receive(b, 1, first[0])
	expect(t, "MsgHello 5", b, l, api.Session{Local: 1, Remote: 0, Epoch: 2, Number: 6}, []api.Message{{Kind: api.MsgReset, From: 1, To: 0, Number: 6, Epoch: 2}})
	a, l = session.Receive(a, 2, l[0])
	expect(t, "MsgReset 6", a, l, api.Session{Local: 0, Remote: 1, Epoch: 2, Number: 6}, nil)
	a, l, again := session.Dial(a, 3, 5)
	b, l = session.Receive(b, 4, l[0])
	open := api.Session{Local: 1, Remote: 0, Epoch: 2, Number: 7, Phase: api.PhaseOpen}
	expect(t, "MsgHello 7", b, l, open, []api.Message{{Kind: api.MsgWelcome, From: 1, To: 0, Number: 7, Epoch: 2}})
	a, l = session.Receive(a, 5, l[0])
	expect(t, "MsgWelcome 7", a, l, api.Session{Local: 0, Remote: 1, Epoch: 2, Number: 7, Phase: api.PhaseOpen}, nil)
	b, l = session.Receive(b, 6, first[0])
	expect(t, "a duplicate of MsgHello 5", b, l, open, nil)
	if err != api.OK || again != api.OK || session.Accepts(a, 7, 2) != api.OK || session.Accepts(b, 7, 2) != api.OK {
		t.Errorf("the examples: got %d, %d", err, again)
	}
}

// The bounds of the numbers and epochs of a small installation.
const (
	mostNumber = 3
	mostEpoch  = 1
)

// installation are both ends of a connection, and everything that they ever sent: messages are lost, duplicated and reordered, so each of them may arrive at any time, or never.
type installation struct {
	ends [2]api.Session
	// opened are the numbers with which the ends were opened last, or -1.
	opened [2]int
	// sent is a set of messages, with a bit for each.
	sent uint64
}

// bit is that of a message.
func bit(m api.Message) uint64 {
	return 1 << (((m.From*3+m.Kind-api.MsgHello)*(mostNumber+1)+m.Number)*(mostEpoch+1) + m.Epoch)
}

// all are all messages of the small installation.
func all() []api.Message {
	var l []api.Message
	for from := range 2 {
		for kind := api.MsgHello; kind <= api.MsgReset; kind++ {
			for number := range mostNumber + 1 {
				for epoch := range mostEpoch + 1 {
					l = append(l, api.Message{Kind: kind, From: from, To: 1 - from, Number: number, Epoch: epoch})
				}
			}
		}
	}
	return l
}

// checkStep checks what an end does, whatever makes it do so; m is the message that it has received, or a zero one.
func checkStep(t *testing.T, before, after api.Session, opened int, m api.Message) {
	t.Helper()
	if after.Number < before.Number || after.Epoch < before.Epoch || session.Check(after) != api.OK {
		t.Errorf("%v becomes %v", before, after)
	}
	isOpen := after.Phase == api.PhaseOpen
	if isOpen && (before.Phase != api.PhaseOpen || after.Number != before.Number) && after.Number <= opened {
		t.Errorf("%v becomes %v, after it was open with %d", before, after, opened)
	}
	old := m.Kind != 0 && (m.Epoch < before.Epoch || m.Epoch == before.Epoch && m.Number < before.Number)
	if before.Phase == api.PhaseOpen && old && after != before {
		t.Errorf("%v becomes %v by %v", before, after, m)
	}
}

// with is the installation after an end has become another one, and has sent messages.
func (x installation) with(i int, s api.Session, messages []api.Message) installation {
	x.ends[i] = s
	if s.Phase == api.PhaseOpen {
		x.opened[i] = s.Number
	}
	for _, m := range messages {
		x.sent |= bit(m)
	}
	return x
}

// steps are the installations behind everything that may happen next.
func (x installation) steps(t *testing.T, messages []api.Message) []installation {
	var l []installation
	add := func(i int, s api.Session, m api.Message, answers []api.Message) {
		checkStep(t, x.ends[i], s, x.opened[i], m)
		if y := x.with(i, s, answers); y != x {
			l = append(l, y)
		}
	}
	for i, s := range x.ends {
		if s.Number < mostNumber {
			if after, hello, err := session.Dial(s, 0, 0); err == api.OK {
				add(i, after, api.Message{}, hello)
			}
		}
		after, answers := session.Close(s)
		add(i, after, api.Message{}, answers)
		after, answers = session.Expire(s, 0, 0)
		add(i, after, api.Message{}, answers)
		after, answers = session.Expire(s, 0, -1)
		add(i, after, api.Message{}, answers)
	}
	for _, m := range messages {
		if x.sent&bit(m) != 0 {
			after, answers := session.Receive(x.ends[m.To], 0, m)
			add(m.To, after, m, answers)
		}
	}
	return l
}

// settle lets one end dial while no messages are lost any more, those that are on their way among them, until both ends are open.
func settle(t *testing.T, ends [2]api.Session, flying []api.Message) {
	t.Helper()
	before := ends
	deliver := func() {
		for len(flying) > 0 {
			m := flying[0]
			i := slices.IndexFunc(ends[:], func(s api.Session) bool { return s.Local == m.To })
			s, answers := session.Receive(ends[i], 0, m)
			ends[i], flying = s, append(flying[1:], answers...)
		}
	}
	deliver()
	for range 5 {
		dial := slices.IndexFunc(ends[:], func(s api.Session) bool { return s.Phase == api.PhaseClosed })
		if dial >= 0 {
			s, hello, err := session.Dial(ends[dial], 0, 0)
			if err != api.OK {
				t.Errorf("Dial of %v: got %d", ends[dial], err)
			}
			ends[dial], flying = s, hello
		}
		for i, s := range ends {
			if i != dial {
				after, hello := session.Expire(s, 1<<20, 0)
				ends[i], flying = after, append(flying, hello...)
			}
		}
		deliver()
	}
	a, b := ends[0], ends[1]
	if a.Phase != api.PhaseOpen || b.Phase != api.PhaseOpen || a.Number != b.Number || a.Epoch != b.Epoch {
		t.Errorf("%v become %v", before, ends)
	}
}

// Everything that can happen in a small installation, from all numbers and epochs of both ends.
func TestP263Small(t *testing.T) {
	messages := all()
	seen := map[installation]bool{}
	settled := map[[2]api.Session]bool{}
	var work []installation
	for i := range 16 {
		var x installation
		for k := range 2 {
			x.ends[k], _ = session.New(k, 1-k, i>>(2*k)&1, i>>(2*k+1)&1)
			x.opened[k] = -1
		}
		work = append(work, x)
		seen[x] = true
	}
	for len(work) > 0 && !t.Failed() {
		x := work[len(work)-1]
		work = work[:len(work)-1]
		a, b := x.ends[0], x.ends[1]
		if a.Phase == api.PhaseOpen && b.Phase == api.PhaseOpen && (a.Number != b.Number || a.Epoch != b.Epoch) {
			t.Errorf("both ends are open, as %v and %v", a, b)
		}
		if !settled[x.ends] {
			settled[x.ends] = true
			settle(t, x.ends, nil)
		}
		for _, y := range x.steps(t, messages) {
			if !seen[y] {
				seen[y] = true
				work = append(work, y)
			}
		}
	}
	if len(settled) < 100 {
		t.Errorf("only %d pairs of ends were seen", len(settled))
	}
}

// Long runs, in which messages are lost, duplicated and reordered, and ends begin again with a later epoch.
func TestP263Long(t *testing.T) {
	for seed := range 300 {
		next := random(uint32(seed))
		var ends [2]api.Session
		opened := [2]int{-1, -1}
		var flying []api.Message
		for i := range ends {
			ends[i], _ = session.New(2*i, 2-2*i, next(3), next(9))
		}
		put := func(i int, s api.Session, m api.Message, messages []api.Message) {
			checkStep(t, ends[i], s, opened[i], m)
			ends[i], flying = s, append(flying, messages...)
			if s.Phase == api.PhaseOpen {
				opened[i] = s.Number
			}
		}
		for now := range 400 {
			i := next(2)
			switch {
			case next(3) > 0 && len(flying) > 0:
				k := next(len(flying))
				m := flying[k]
				if next(3) > 0 {
					flying = slices.Delete(flying, k, k+1)
				}
				if next(4) > 0 {
					s, messages := session.Receive(ends[m.To/2], now, m)
					put(m.To/2, s, m, messages)
				}
			case next(20) == 0:
				s, err := session.New(2*i, 2-2*i, ends[i].Epoch+1, ends[i].Number)
				if err != api.OK {
					t.Fatalf("New: got %d", err)
				}
				put(i, s, api.Message{}, nil)
			case next(9) == 0:
				s, messages := session.Close(ends[i])
				put(i, s, api.Message{}, messages)
			case ends[i].Phase == api.PhaseClosed:
				s, messages, err := session.Dial(ends[i], now, next(20))
				if err != api.OK {
					t.Fatalf("Dial: got %d", err)
				}
				put(i, s, api.Message{}, messages)
			default:
				s, messages := session.Expire(ends[i], now, next(20)-1)
				put(i, s, api.Message{}, messages)
			}
		}
		settle(t, ends, flying)
	}
}
