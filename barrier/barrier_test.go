package barrier_test

import (
	"math"
	"reflect"
	"slices"
	"testing"

	"standby/api"
	"standby/barrier"
)

// random returns numbers from 0 to n - 1 that look random.
func random(seed uint32) func(n int) int {
	return func(n int) int {
		seed = seed*1664525 + 1013904223
		return int(seed>>8) % n
	}
}

// up are the numbers from 0 to n - 1.
func up(n int) []int {
	var l []int
	for i := range n {
		l = append(l, i)
	}
	return l
}

func sameCoordinator(a, b api.Coordinator) bool {
	return a.Nodes == b.Nodes && a.Round == b.Round && a.Phase == b.Phase && a.Deadline == b.Deadline && a.Valid == b.Valid && slices.Equal(a.Positions, b.Positions) && slices.Equal(a.Seen, b.Seen)
}

func sameMember(a, b api.Member) bool {
	return a.Round == b.Round && a.Position == b.Position && a.Thawed == b.Thawed && a.Issued == b.Issued && a.Frozen == b.Frozen && a.Until == b.Until && slices.Equal(a.Waiting, b.Waiting) && slices.Equal(a.Held, b.Held)
}

func sameMessage(a, b api.Message) bool {
	return a.Kind == b.Kind && a.From == b.From && a.To == b.To && a.Number == b.Number && a.Value == b.Value && a.Epoch == b.Epoch && slices.Equal(a.Values, b.Values) && slices.Equal(a.Body, b.Body)
}

// toAll are the messages of a kind to all nodes of a coordinator; none for the kind 0.
func toAll(c api.Coordinator, kind int) []api.Message {
	var l []api.Message
	for node := 0; node < c.Nodes && kind != 0; node++ {
		l = append(l, api.Message{Kind: kind, From: c.Nodes, To: node, Number: c.Round})
	}
	return l
}

// expectCoordinator reports a coordinator or messages that are not the wanted ones.
func expectCoordinator(t *testing.T, what string, got api.Coordinator, messages []api.Message, want api.Coordinator, wanted []api.Message) {
	t.Helper()
	if !sameCoordinator(got, want) || !slices.EqualFunc(messages, wanted, sameMessage) {
		t.Errorf("%s: got %v, %v, want %v, %v", what, got, messages, want, wanted)
	}
}

// expectMember does the same for a member, acknowledgements and answers.
func expectMember(t *testing.T, what string, got api.Member, acks []int, answers []api.Message, want api.Member, wantedAcks []int, wanted []api.Message) {
	t.Helper()
	if !sameMember(got, want) || !slices.Equal(acks, wantedAcks) || !slices.EqualFunc(answers, wanted, sameMessage) {
		t.Errorf("%s: got %v, %v, %v, want %v, %v, %v", what, got, acks, answers, want, wantedAcks, wanted)
	}
}

// cloned is a coordinator with lists of its own.
func cloned(c api.Coordinator) api.Coordinator {
	c.Positions, c.Seen = slices.Clone(c.Positions), slices.Clone(c.Seen)
	return c
}

// coordinators are well-formed coordinators of at most three nodes, in all their phases, and some greater ones.
func coordinators() []api.Coordinator {
	var l []api.Coordinator
	for nodes := 1; nodes <= 3; nodes++ {
		for bits := range 1 << nodes {
			seen, positions := make([]bool, nodes), make([]int, nodes)
			for node := range nodes {
				seen[node] = bits>>node&1 == 1
				positions[node] = [3]int{api.MaxWrites, 0, 3}[(node+bits)%3]
			}
			for _, round := range []int{0, 1, 7, api.MaxTime - 1, api.MaxTime} {
				c := api.Coordinator{Nodes: nodes, Round: round, Deadline: [3]int{0, 5, api.MaxTime}[(round+bits)%3], Positions: positions, Seen: seen}
				for phase := range 3 {
					c.Phase = phase
					l = append(l, cloned(c))
				}
				c.Phase, c.Valid = 0, true
				l = append(l, cloned(c))
			}
		}
	}
	for phase := range 3 {
		l = append(l, api.Coordinator{Nodes: 8, Round: 3, Phase: phase, Deadline: 9, Positions: up(8), Seen: []bool{true, true, true, false, true, true, true, true}})
	}
	return l
}

// wrongCoordinators are coordinators that are not well-formed.
func wrongCoordinators() []api.Coordinator {
	var l []api.Coordinator
	add := func(change func(c *api.Coordinator)) {
		for phase := range 3 {
			for _, round := range []int{0, 4, api.MaxTime} {
				c := api.Coordinator{Nodes: 2, Round: round, Phase: phase, Deadline: 9, Positions: []int{3, 0}, Seen: []bool{true, false}}
				change(&c)
				l = append(l, c)
			}
		}
	}
	for _, x := range []int{0, -1, 1, 3, 9, math.MaxInt, math.MinInt} {
		add(func(c *api.Coordinator) { c.Nodes = x })
	}
	for _, n := range []int{0, 9} {
		add(func(c *api.Coordinator) { c.Nodes, c.Positions, c.Seen = n, make([]int, n), make([]bool, n) })
	}
	for _, x := range []int{-1, api.MaxTime + 1, math.MaxInt, math.MinInt} {
		add(func(c *api.Coordinator) { c.Round = x })
		add(func(c *api.Coordinator) { c.Deadline = x })
	}
	for _, x := range []int{-1, 3, math.MaxInt, math.MinInt} {
		add(func(c *api.Coordinator) { c.Phase = x })
	}
	for _, x := range []int{-1, api.MaxWrites + 1, math.MaxInt, math.MinInt} {
		add(func(c *api.Coordinator) { c.Positions[0] = x })
		add(func(c *api.Coordinator) { c.Positions[1] = x })
	}
	add(func(c *api.Coordinator) { c.Positions = nil })
	add(func(c *api.Coordinator) { c.Positions = []int{1} })
	add(func(c *api.Coordinator) { c.Positions = []int{1, 2, 3} })
	add(func(c *api.Coordinator) { c.Seen = nil })
	add(func(c *api.Coordinator) { c.Seen = []bool{true} })
	add(func(c *api.Coordinator) { c.Seen = make([]bool, 3) })
	add(func(c *api.Coordinator) { c.Positions, c.Seen = make([]int, 5000), make([]bool, 5000) })
	add(func(c *api.Coordinator) { c.Phase, c.Valid = 1, true })
	add(func(c *api.Coordinator) { c.Phase, c.Valid = 2, true })
	return append(l, api.Coordinator{}, api.Coordinator{Valid: true})
}

func TestP211CheckCoordinator(t *testing.T) {
	for _, c := range coordinators() {
		if err := barrier.CheckCoordinator(c); err != api.OK {
			t.Errorf("CheckCoordinator of %v: got %d", c, err)
		}
	}
	for _, c := range wrongCoordinators() {
		if err := barrier.CheckCoordinator(c); err != api.ErrForm {
			t.Errorf("CheckCoordinator of %v: got %d, want ErrForm", c, err)
		}
	}
}

func TestP211New(t *testing.T) {
	for nodes := 1; nodes <= 8; nodes++ {
		got, err := barrier.New(nodes)
		want := api.Coordinator{Nodes: nodes, Positions: make([]int, nodes), Seen: make([]bool, nodes)}
		if err != api.OK || !sameCoordinator(got, want) || barrier.CheckCoordinator(got) != api.OK {
			t.Errorf("New of %d nodes: got %v, %d", nodes, got, err)
		}
	}
	for _, nodes := range []int{0, -1, 9, math.MaxInt, math.MinInt} {
		if got, err := barrier.New(nodes); err != api.ErrRange || !sameCoordinator(got, api.Coordinator{}) {
			t.Errorf("New of %d nodes: got %v, %d", nodes, got, err)
		}
	}
}

// times are pairs of a time and a patience, with the error that they have.
func times() map[[2]int]api.Errno {
	return map[[2]int]api.Errno{
		{0, 1}: api.OK, {0, 5}: api.OK, {9, 1}: api.OK, {0, api.MaxTime}: api.OK, {api.MaxTime - 1, 1}: api.OK, {5, api.MaxTime - 5}: api.OK,
		{-1, 5}: api.ErrTime, {math.MinInt, 5}: api.ErrTime, {-1, api.MaxTime}: api.ErrTime, {-1, math.MaxInt}: api.ErrTime, {5, 0}: api.ErrTime, {5, -1}: api.ErrTime, {5, math.MinInt}: api.ErrTime, {api.MaxTime, 0}: api.ErrTime, {0, math.MinInt}: api.ErrTime,
		{0, api.MaxTime + 1}: api.ErrTime, {api.MaxTime, 1}: api.ErrTime, {5, api.MaxTime - 4}: api.ErrTime, {api.MaxTime + 1, 1}: api.ErrTime, {math.MaxInt, 1}: api.ErrTime, {1, math.MaxInt}: api.ErrTime, {math.MaxInt, math.MaxInt}: api.ErrTime, {math.MinInt, math.MinInt}: api.ErrTime,
	}
}

func TestP211Start(t *testing.T) {
	check := func(c api.Coordinator, now, patience int, code api.Errno) {
		t.Helper()
		want, kind := api.Coordinator{}, 0
		if code == api.OK {
			want = api.Coordinator{Nodes: c.Nodes, Round: c.Round + 1, Phase: 1, Deadline: now + patience, Positions: make([]int, c.Nodes), Seen: make([]bool, c.Nodes)}
			kind = api.MsgFreeze
		}
		got, messages, err := barrier.Start(c, now, patience)
		expectCoordinator(t, "Start", got, messages, want, toAll(want, kind))
		if err != code {
			t.Errorf("Start of %v at %d with the patience %d: got %d, want %d", c, now, patience, err, code)
		}
	}
	for time, code := range times() {
		for _, c := range coordinators() {
			want := code
			switch {
			case code != api.OK:
			case c.Phase != 0:
				want = api.ErrBusy
			case c.Round == api.MaxTime:
				want = api.ErrMany
			}
			check(c, time[0], time[1], want)
		}
		for _, c := range wrongCoordinators() {
			check(c, time[0], time[1], api.ErrForm)
		}
	}
}

// collected is what Collect makes of a well-formed coordinator, and the kind of the messages that it sends to all nodes.
func collected(c api.Coordinator, now int, m api.Message) (api.Coordinator, int) {
	if c.Phase == 0 || now >= c.Deadline || m.From < 0 || m.From >= c.Nodes || m.Number != c.Round {
		return c, 0
	}
	c = cloned(c)
	last := true
	for node, seen := range c.Seen {
		last = last && (seen || node == m.From)
	}
	if c.Phase == 1 && m.Kind == api.MsgFrozen && m.Value >= 0 && m.Value <= 4096 && !c.Seen[m.From] {
		c.Positions[m.From], c.Seen[m.From] = m.Value, true
		if last {
			c.Phase, c.Seen = 2, make([]bool, c.Nodes)
			return c, api.MsgThaw
		}
	}
	if c.Phase == 2 && m.Kind == api.MsgThawed && m.Value == 1 {
		c.Seen[m.From] = true
		if last {
			c.Phase, c.Valid = 0, true
		}
	}
	if c.Phase == 2 && m.Kind == api.MsgThawed && m.Value != 1 {
		c.Phase, c.Valid = 0, false
		return c, api.MsgAbandon
	}
	return c, 0
}

// kinds are the kinds of messages, and some more.
func kinds() []int {
	l := []int{math.MinInt, -1, 27, math.MaxInt}
	return append(l, up(27)...)
}

// nodeMessages are messages of a round and others that a coordinator may receive.
func nodeMessages(c api.Coordinator) []api.Message {
	var l []api.Message
	for _, kind := range []int{api.MsgFrozen, api.MsgThawed} {
		for _, from := range []int{0, 1, 2, 3, 7, 8, -1, math.MaxInt, math.MinInt} {
			for _, number := range []int{c.Round, c.Round - 1, c.Round + 1, 0, math.MaxInt, math.MinInt} {
				for _, value := range []int{0, 1, 2, -1, 4096, 4097, math.MaxInt, math.MinInt} {
					l = append(l, api.Message{Kind: kind, From: from, To: c.Nodes, Number: number, Value: value})
				}
			}
		}
	}
	for _, kind := range kinds() {
		for value := range 2 {
			// What else is in a message does not matter.
			l = append(l, api.Message{Kind: kind, To: -7, Number: c.Round, Value: value, Epoch: 9, Values: []int{1}, Body: []byte{2}})
		}
	}
	return l
}

func TestP211Collect(t *testing.T) {
	for _, c := range coordinators() {
		for _, m := range nodeMessages(c) {
			for _, now := range []int{0, c.Deadline - 1, c.Deadline, c.Deadline + 1, math.MinInt, math.MaxInt} {
				want, kind := collected(c, now, m)
				got, messages := barrier.Collect(c, now, m)
				expectCoordinator(t, "Collect", got, messages, want, toAll(want, kind))
			}
		}
	}
	for _, c := range wrongCoordinators() {
		for _, m := range nodeMessages(c) {
			got, messages := barrier.Collect(c, 0, m)
			expectCoordinator(t, "Collect of a wrong coordinator", got, messages, c, nil)
		}
	}
}

func TestP211Expire(t *testing.T) {
	for _, c := range coordinators() {
		for _, now := range []int{0, c.Deadline - 1, c.Deadline, c.Deadline + 1, -1, math.MinInt, math.MaxInt} {
			want, kind := cloned(c), 0
			if c.Phase != 0 && now >= c.Deadline {
				want.Phase, want.Valid = 0, false
				kind = api.MsgAbandon
			}
			got, messages := barrier.Expire(c, now)
			expectCoordinator(t, "Expire", got, messages, want, toAll(want, kind))
		}
	}
	for _, c := range wrongCoordinators() {
		for _, now := range []int{0, 9, math.MaxInt} {
			got, messages := barrier.Expire(c, now)
			expectCoordinator(t, "Expire of a wrong coordinator", got, messages, c, nil)
		}
	}
}

func TestP211Result(t *testing.T) {
	valid := 0
	for _, c := range coordinators() {
		got, ok := barrier.Result(c)
		if c.Valid {
			valid++
		}
		if ok != c.Valid || ok && !slices.Equal(got, c.Positions) || !ok && len(got) > 0 {
			t.Errorf("Result of %v: got %v, %t", c, got, ok)
		}
	}
	for _, c := range wrongCoordinators() {
		if got, ok := barrier.Result(c); ok || len(got) > 0 {
			t.Errorf("Result of a wrong coordinator: got %v, %t", got, ok)
		}
		c.Valid = true
		if got, ok := barrier.Result(c); barrier.CheckCoordinator(c) != api.OK && (ok || len(got) > 0) {
			t.Errorf("Result of a wrong coordinator that is valid: got %v, %t", got, ok)
		}
	}
	if valid == 0 {
		t.Error("no coordinator has a result")
	}
}

// permutations are all orders of the elements of a list.
func permutations(l []int) [][]int {
	if len(l) == 0 {
		return [][]int{nil}
	}
	var all [][]int
	for i, x := range l {
		rest := slices.Concat(l[:i], l[i+1:])
		for _, p := range permutations(rest) {
			all = append(all, append([]int{x}, p...))
		}
	}
	return all
}

// powers are all sets of some numbers, and those that remain.
func powers(l []int) [][2][]int {
	var all [][2][]int
	for bits := range 1 << len(l) {
		var set [2][]int
		for i, x := range l {
			set[bits>>i&1] = append(set[bits>>i&1], x)
		}
		all = append(all, set)
	}
	return all
}

// members are all well-formed members that have issued few writes, for some rounds and times.
func members() []api.Member {
	var l []api.Member
	add := func(issued int, waiting, held []int, frozen bool) {
		for _, rounds := range [][2]int{{0, 0}, {1, 0}, {1, 1}, {4, 2}, {4, 4}, {api.MaxTime, 9}} {
			m := api.Member{Round: rounds[0], Thawed: rounds[1], Issued: issued, Frozen: frozen, Waiting: waiting, Held: held}
			m.Until = [3]int{0, 5, api.MaxTime}[len(l)%3]
			m.Position = len(l) / 3 % (issued + 1)
			l = append(l, m)
		}
	}
	for issued := range 4 {
		for _, open := range powers(up(issued)) {
			add(issued, open[0], nil, false)
			for _, held := range powers(open[0]) {
				for _, order := range permutations(held[1]) {
					add(issued, held[0], order, true)
				}
			}
		}
	}
	add(4095, up(4094), []int{4094}, true)
	add(4096, up(4096), nil, false)
	add(4096, nil, up(4096), true)
	return l
}

// wrongMembers are members that are not well-formed.
func wrongMembers() []api.Member {
	var l []api.Member
	add := func(change func(m *api.Member)) {
		m := api.Member{Round: 4, Position: 2, Thawed: 3, Issued: 5, Frozen: true, Until: 9, Waiting: []int{1, 4}, Held: []int{3, 0}}
		change(&m)
		l = append(l, m)
	}
	for _, x := range []int{-1, api.MaxTime + 1, math.MaxInt, math.MinInt} {
		add(func(m *api.Member) { m.Round = x })
		add(func(m *api.Member) { m.Round, m.Thawed = x, x })
		add(func(m *api.Member) { m.Until = x })
	}
	for _, x := range []int{-1, 5, math.MaxInt, math.MinInt} {
		add(func(m *api.Member) { m.Thawed = x })
	}
	for _, x := range []int{-1, 6, math.MaxInt, math.MinInt} {
		add(func(m *api.Member) { m.Position = x })
	}
	for _, x := range []int{-1, 0, 1, 4, 4097, math.MaxInt, math.MinInt} {
		add(func(m *api.Member) { m.Issued = x })
	}
	add(func(m *api.Member) { m.Issued, m.Position, m.Waiting, m.Held = 4097, 4097, nil, nil })
	for _, waiting := range [][]int{{4, 1}, {1, 1}, {4, 4}, {-1}, {5}, {1, 5}, {-1, 1}, {0}, {2, 3}, {math.MaxInt}, {math.MinInt, 1}, make([]int, 5000)} {
		add(func(m *api.Member) { m.Waiting = waiting })
	}
	for _, held := range [][]int{{3, 3}, {3, 0, 3}, {-1}, {5}, {0, 5}, {1}, {0, 4}, {math.MaxInt}, {math.MinInt}, make([]int, 5000)} {
		add(func(m *api.Member) { m.Held = held })
	}
	add(func(m *api.Member) { m.Frozen = false })
	add(func(m *api.Member) { m.Frozen, m.Held = false, []int{2} })
	return l
}

func TestP212CheckMember(t *testing.T) {
	for _, m := range members() {
		if err := barrier.CheckMember(m); err != api.OK {
			t.Errorf("CheckMember of %v: got %d", m, err)
		}
	}
	for _, m := range wrongMembers() {
		if err := barrier.CheckMember(m); err != api.ErrForm {
			t.Errorf("CheckMember of %v: got %d, want ErrForm", m, err)
		}
	}
	if err := barrier.CheckMember(api.Member{}); err != api.OK {
		t.Errorf("CheckMember of a new member: got %d", err)
	}
}

func TestP212Issue(t *testing.T) {
	for _, m := range members() {
		want, number := m, -1
		if m.Issued < 4096 {
			want.Issued, want.Waiting, number = m.Issued+1, append(slices.Clone(m.Waiting), m.Issued), m.Issued
		}
		got, write := barrier.Issue(m)
		expectMember(t, "Issue", got, []int{write}, nil, want, []int{number}, nil)
	}
	for _, m := range wrongMembers() {
		got, write := barrier.Issue(m)
		expectMember(t, "Issue of a wrong member", got, []int{write}, nil, m, []int{-1}, nil)
	}
}

func TestP212Durable(t *testing.T) {
	for _, m := range members() {
		for _, write := range []int{0, 1, 2, 3, 4, 4093, 4094, 4095, 4096, -1, math.MaxInt, math.MinInt} {
			want, code := m, api.OK
			var wanted []int
			switch {
			case !slices.Contains(m.Waiting, write):
				want, code = api.Member{}, api.ErrNone
			case m.Frozen:
				want.Held = append(slices.Clone(m.Held), write)
			default:
				wanted = []int{write}
			}
			want.Waiting = slices.DeleteFunc(slices.Clone(want.Waiting), func(w int) bool { return w == write })
			got, acks, err := barrier.Durable(m, write)
			expectMember(t, "Durable", got, acks, nil, want, wanted, nil)
			if err != code {
				t.Errorf("Durable of %d in %v: got %d, want %d", write, m, err, code)
			}
		}
	}
	for _, m := range wrongMembers() {
		for _, write := range []int{0, 1, 4, -1} {
			got, acks, err := barrier.Durable(m, write)
			expectMember(t, "Durable in a wrong member", got, acks, nil, api.Member{}, nil, nil)
			if err != api.ErrForm {
				t.Errorf("Durable in a wrong member: got %d", err)
			}
		}
	}
}

// obeyed is what Obey makes of a well-formed member: the member, the acknowledgements, and the kind and the value of the answer, if there is one.
func obeyed(m api.Member, now, patience int, msg api.Message) (after api.Member, acks []int, kind, value int) {
	if msg.Number < 1 || msg.Number > api.MaxTime {
		return m, nil, 0, 0
	}
	patience, now = max(patience, 1), max(now, 0)
	thawed := m
	thawed.Frozen, thawed.Held = false, nil
	older, same, newer := msg.Number < m.Round, msg.Number == m.Round, msg.Number > m.Round
	switch {
	case older:
		return m, nil, 0, 0
	case msg.Kind == api.MsgFreeze && newer:
		m.Round, m.Position, m.Frozen, m.Until = msg.Number, m.Issued, true, api.MaxTime
		if now < api.MaxTime && patience < api.MaxTime && now+patience < api.MaxTime {
			m.Until = now + patience
		}
		return m, nil, api.MsgFrozen, m.Position
	case msg.Kind == api.MsgFreeze && same && m.Frozen:
		return m, nil, api.MsgFrozen, m.Position
	case msg.Kind == api.MsgThaw && same && m.Frozen && now < m.Until:
		thawed.Thawed = m.Round
		return thawed, m.Held, api.MsgThawed, 1
	case msg.Kind == api.MsgThaw && same && m.Frozen:
		return thawed, m.Held, api.MsgThawed, 0
	case msg.Kind == api.MsgThaw && same && m.Thawed == m.Round:
		return m, nil, api.MsgThawed, 1
	case msg.Kind == api.MsgThaw:
		return m, nil, api.MsgThawed, 0
	case msg.Kind == api.MsgAbandon && same && m.Frozen:
		return thawed, m.Held, 0, 0
	}
	return m, nil, 0, 0
}

// memberMessages are messages of a round and others that a member may receive.
func memberMessages(m api.Member) []api.Message {
	var l []api.Message
	for _, kind := range []int{api.MsgFreeze, api.MsgThaw, api.MsgAbandon} {
		for _, number := range []int{m.Round, m.Round - 1, m.Round + 1, m.Thawed, 0, 1, api.MaxTime, api.MaxTime + 1, math.MaxInt, math.MinInt} {
			l = append(l, api.Message{Kind: kind, From: 3, To: 1, Number: number})
		}
	}
	for _, kind := range kinds() {
		// The numbers of the parties are not looked at, and what else is in a message neither.
		l = append(l, api.Message{Kind: kind, From: -5, To: math.MaxInt, Number: m.Round, Value: 1, Epoch: 8, Values: []int{1}, Body: []byte{2}})
	}
	return l
}

func TestP212Obey(t *testing.T) {
	check := func(m api.Member, now, patience int, msg api.Message) {
		t.Helper()
		want, wantedAcks, kind, value := obeyed(m, now, patience, msg)
		var wanted []api.Message
		if kind != 0 {
			wanted = []api.Message{{Kind: kind, From: msg.To, To: msg.From, Number: msg.Number, Value: value}}
		}
		got, acks, answers := barrier.Obey(m, now, patience, msg)
		expectMember(t, "Obey", got, acks, answers, want, wantedAcks, wanted)
	}
	for _, m := range members() {
		for _, msg := range memberMessages(m) {
			for _, now := range []int{0, m.Until - 1, m.Until, m.Until + 1} {
				check(m, now, 7, msg)
			}
		}
		for _, now := range []int{5, -1, math.MinInt, api.MaxTime - 1, api.MaxTime, api.MaxTime + 1, math.MaxInt} {
			for _, patience := range []int{1, 0, -1, math.MinInt, 2, api.MaxTime - 6, api.MaxTime - 5, api.MaxTime - 4, api.MaxTime, math.MaxInt - 1, math.MaxInt} {
				for _, msg := range memberMessages(m)[:12] {
					check(m, now, patience, msg)
				}
			}
		}
	}
	for _, m := range wrongMembers() {
		for _, msg := range memberMessages(m) {
			got, acks, answers := barrier.Obey(m, 9, 7, msg)
			expectMember(t, "Obey of a wrong member", got, acks, answers, m, nil, nil)
		}
	}
}

func TestP212Release(t *testing.T) {
	for _, m := range members() {
		for _, now := range []int{0, 5, m.Until - 1, m.Until, m.Until + 1, -1, math.MinInt, math.MaxInt} {
			want := m
			var wanted []int
			if m.Frozen && m.Until <= now {
				want.Frozen, want.Held, wanted = false, nil, m.Held
			}
			got, acks := barrier.Release(m, now)
			expectMember(t, "Release", got, acks, nil, want, wanted, nil)
		}
	}
	for _, m := range wrongMembers() {
		got, acks := barrier.Release(m, math.MaxInt)
		expectMember(t, "Release of a wrong member", got, acks, nil, m, nil, nil)
	}
}

// never is the moment of what has not happened.
const never = -1

// fate is what happens to a write of a node: the moments at which it was issued, became durable and was acknowledged.
type fate struct {
	issued, durable, acked int
}

// world is a coordinator with its nodes, the messages between them, and what has happened.
type world struct {
	c       api.Coordinator
	members []api.Member
	flying  []api.Message
	now     int
	// moment numbers the steps of a run.
	moment int
	fates  [][]fate
	// patience is that of the coordinator, and hold that of the nodes.
	patience, hold int
	// cuts counts the rounds that were valid.
	cuts int
}

func newWorld(t *testing.T, nodes, patience, hold int) *world {
	t.Helper()
	c, err := barrier.New(nodes)
	if err != api.OK {
		t.Fatalf("New: got %d", err)
	}
	return &world{c: c, members: make([]api.Member, nodes), fates: make([][]fate, nodes), patience: patience, hold: hold}
}

// acknowledge notes acknowledgements of a node.
func (w *world) acknowledge(t *testing.T, node int, writes []int) {
	t.Helper()
	for _, write := range writes {
		f := &w.fates[node][write]
		if f.durable == never || f.acked != never {
			t.Errorf("write %d of node %d is acknowledged at %d: %v", write, node, w.moment, *f)
		}
		f.acked = w.moment
	}
	if len(writes) > 0 && w.members[node].Frozen {
		t.Errorf("node %d acknowledges %v, but is frozen", node, writes)
	}
}

func (w *world) issue(t *testing.T, node int) {
	t.Helper()
	m, write := barrier.Issue(w.members[node])
	if write != len(w.fates[node]) {
		t.Fatalf("Issue: got %d", write)
	}
	w.members[node] = m
	w.fates[node] = append(w.fates[node], fate{w.moment, never, never})
}

func (w *world) durable(t *testing.T, node, write int) {
	t.Helper()
	m, acks, err := barrier.Durable(w.members[node], write)
	if err != api.OK {
		t.Fatalf("Durable: got %d", err)
	}
	w.members[node], w.fates[node][write].durable = m, w.moment
	w.acknowledge(t, node, acks)
}

func (w *world) start(t *testing.T) {
	t.Helper()
	c, messages, err := barrier.Start(w.c, w.now, w.patience)
	if err != api.OK {
		t.Fatalf("Start: got %d", err)
	}
	w.c, w.flying = c, append(w.flying, messages...)
}

func (w *world) receive(t *testing.T, msg api.Message) {
	t.Helper()
	if msg.To < len(w.members) {
		m, acks, answers := barrier.Obey(w.members[msg.To], w.now, w.hold, msg)
		w.members[msg.To], w.flying = m, append(w.flying, answers...)
		w.acknowledge(t, msg.To, acks)
		return
	}
	valid := w.c.Valid
	c, messages := barrier.Collect(w.c, w.now, msg)
	w.c, w.flying = c, append(w.flying, messages...)
	if !valid && c.Valid {
		w.cuts++
		w.expectCut(t)
	}
}

func (w *world) release(t *testing.T, node int) {
	t.Helper()
	m, acks := barrier.Release(w.members[node], w.now)
	w.members[node] = m
	w.acknowledge(t, node, acks)
}

// expectCut reports a result that is no consistent cut.
func (w *world) expectCut(t *testing.T) {
	t.Helper()
	positions, ok := barrier.Result(w.c)
	if !ok || len(positions) != len(w.members) {
		t.Fatalf("Result: got %v, %t", positions, ok)
	}
	last := never
	for node, position := range positions {
		if position > len(w.fates[node]) {
			t.Fatalf("node %d has issued %d writes, its position is %d", node, len(w.fates[node]), position)
		}
		for _, f := range w.fates[node][:position] {
			last = max(last, f.issued)
		}
	}
	for node, position := range positions {
		for write, f := range w.fates[node][position:] {
			if f.acked != never && f.acked < last {
				t.Errorf("the positions %v lack write %d of node %d, which was acknowledged at %d, before one of %d", positions, position+write, node, f.acked, last)
			}
		}
	}
}

// step does one thing; of 100 messages, some are lost and some are duplicated.
func (w *world) step(t *testing.T, next func(int) int, lost, doubled int) {
	t.Helper()
	w.moment++
	node := next(len(w.members))
	waiting := w.members[node].Waiting
	switch kind := next(20); {
	case kind < 5:
		w.issue(t, node)
	case kind < 10 && len(waiting) > 0:
		w.durable(t, node, waiting[next(len(waiting))])
	case kind < 15 && len(w.flying) > 0:
		i := next(len(w.flying))
		msg := w.flying[i]
		if next(100) >= doubled {
			w.flying = slices.Delete(w.flying, i, i+1)
		}
		if next(100) >= lost {
			w.receive(t, msg)
		}
	case kind == 15:
		w.now += next(3)
	case kind == 16:
		c, messages := barrier.Expire(w.c, w.now)
		w.c, w.flying = c, append(w.flying, messages...)
	case kind < 19:
		w.release(t, node)
	case w.c.Phase == 0:
		w.start(t)
	}
}

// finish lets time pass, and reports writes that are durable and not acknowledged.
func (w *world) finish(t *testing.T) {
	t.Helper()
	w.moment++
	w.now = api.MaxTime
	for node, m := range w.members {
		for write, f := range w.fates[node] {
			if f.durable == never != slices.Contains(m.Waiting, write) {
				t.Errorf("write %d of node %d: %v, %v wait", write, node, f, m.Waiting)
			}
		}
		w.release(t, node)
		for write, f := range w.fates[node] {
			if f.durable != never && f.acked == never {
				t.Errorf("write %d of node %d is durable and never acknowledged", write, node)
			}
		}
	}
}

func TestP213Cuts(t *testing.T) {
	cuts, failures := 0, 0
	for seed := range 3000 {
		next := random(uint32(seed))
		// Nodes that hold for a short time thaw by themselves while others are not frozen yet.
		w := newWorld(t, 1+next(4), 1+next(60), 1+next(10)*next(10))
		lost, doubled := 20*next(2), 30*next(2)
		for range 300 {
			w.step(t, next, lost, doubled)
		}
		w.finish(t)
		cuts += w.cuts
		failures += w.c.Round - w.cuts
	}
	if cuts < 1000 || failures < 1000 {
		t.Errorf("%d rounds were valid, %d were not", cuts, failures)
	}
}

// Rounds whose messages are delivered in any order, and some of them twice, before the deadline and before any node thaws by itself.
func TestP213InTime(t *testing.T) {
	for seed := range 400 {
		next := random(uint32(seed))
		w := newWorld(t, 1+seed%8, 1000, 1000)
		for round := range 5 {
			w.start(t)
			for len(w.flying) > 0 {
				w.moment++
				i := next(len(w.flying))
				msg := w.flying[i]
				if next(4) > 0 {
					w.flying = slices.Delete(w.flying, i, i+1)
				}
				w.receive(t, msg)
				node := next(len(w.members))
				w.issue(t, node)
				if waiting := w.members[node].Waiting; next(2) == 0 {
					w.durable(t, node, waiting[next(len(waiting))])
				}
			}
			if positions, ok := barrier.Result(w.c); !ok || w.cuts != round+1 {
				t.Errorf("%d nodes, round %d: got %v, %t", len(w.members), round+1, positions, ok)
			}
			w.now += 10
		}
		w.finish(t)
	}
}

func TestExample1(t *testing.T) {
	c, _ := barrier.New(2)
	c, messages, err := barrier.Start(c, 10, 5)
	if err != api.OK || !slices.EqualFunc(messages, []api.Message{{Kind: api.MsgFreeze, From: 2, To: 0, Number: 1}, {Kind: api.MsgFreeze, From: 2, To: 1, Number: 1}}, sameMessage) {
		t.Fatalf("Start: got %v, %d", messages, err)
	}
	nodes := make([]api.Member, 2)
	for range 3 {
		nodes[0], _ = barrier.Issue(nodes[0])
	}
	for round := range 2 {
		var answers []api.Message
		for i, msg := range messages {
			m, acks, l := barrier.Obey(nodes[i], 11+round, 9, msg)
			if len(acks) > 0 || len(l) != 1 {
				t.Fatalf("Obey: got %v, %v", acks, l)
			}
			nodes[i], answers = m, append(answers, l...)
		}
		messages = nil
		for _, msg := range answers {
			after, l := barrier.Collect(c, 13, msg)
			c, messages = after, append(messages, l...)
		}
	}
	if got, ok := barrier.Result(c); !ok || !slices.Equal(got, []int{3, 0}) || len(messages) > 0 {
		t.Errorf("got %v, %t, %v", got, ok, messages)
	}
}

func TestExample2(t *testing.T) {
	freeze, thaw := api.Message{Kind: api.MsgFreeze, From: 1, Number: 1}, api.Message{Kind: api.MsgThaw, From: 1, Number: 1}
	for _, released := range []bool{false, true} {
		c, _ := barrier.New(1)
		c, _, _ = barrier.Start(c, 0, 20)
		m, _ := barrier.Issue(api.Member{})
		m, _, answers := barrier.Obey(m, 0, 5, freeze)
		c, _ = barrier.Collect(c, 1, answers[0])
		m, acks, _ := barrier.Durable(m, 0)
		if len(acks) > 0 {
			t.Errorf("a frozen node acknowledges %v", acks)
		}
		now, value := 4, 1
		if released {
			m, acks = barrier.Release(m, 5)
			if !slices.Equal(acks, []int{0}) {
				t.Errorf("Release: got %v", acks)
			}
			now, value = 6, 0
		}
		m, acks, answers = barrier.Obey(m, now, 5, thaw)
		if answers[0].Value != value || !released && !slices.Equal(acks, []int{0}) || released && len(acks) > 0 || m.Frozen {
			t.Errorf("MsgThaw: got %v, %v, %v", m, acks, answers)
		}
		c, messages := barrier.Collect(c, 6, answers[0])
		if _, ok := barrier.Result(c); ok == released || released != (len(messages) == 1 && messages[0].Kind == api.MsgAbandon) {
			t.Errorf("Result: got %t, with the messages %v", ok, messages)
		}
	}
}

// spoil changes everything that a value reaches, its spare capacity too.
func spoil(v reflect.Value) {
	switch v.Kind() {
	case reflect.Slice:
		for i := range v.Cap() {
			spoil(v.Slice(0, v.Cap()).Index(i))
		}
	case reflect.Struct:
		for i := range v.NumField() {
			spoil(v.Field(i))
		}
	case reflect.Int:
		v.SetInt(77)
	case reflect.Uint8:
		v.SetUint(77)
	case reflect.Bool:
		v.SetBool(!v.Bool())
	}
}

// spare returns a copy of a list with one more element in its spare capacity.
func spare[T any](l []T, beyond T) []T {
	return append(slices.Clone(l), beyond)[:len(l)]
}

// arguments are what the functions are called with.
type arguments struct {
	idle, freezing, thawing, wrong api.Coordinator
	free, frozen, bad              api.Member
	m                              api.Message
}

// coordinator is a coordinator of two nodes with elements in its spare capacity.
func coordinator(phase int, valid bool) api.Coordinator {
	return api.Coordinator{Nodes: 2, Round: 3, Phase: phase, Deadline: 9, Positions: spare([]int{4, 5}, 6), Seen: spare([]bool{true, false}, true), Valid: valid}
}

// values are arguments with elements in their spare capacity.
func values() arguments {
	return arguments{
		idle: coordinator(0, true), freezing: coordinator(1, false), thawing: coordinator(2, false), wrong: coordinator(3, true),
		free:   api.Member{Round: 2, Thawed: 2, Issued: 5, Waiting: spare([]int{0, 2, 4}, 8)},
		frozen: api.Member{Round: 3, Issued: 5, Frozen: true, Until: 9, Waiting: spare([]int{2, 4}, 8), Held: spare([]int{3, 0}, 9)},
		bad:    api.Member{Round: -1, Issued: 5, Waiting: spare([]int{2, 4}, 8), Held: spare([]int{3, 0}, 9)},
		m:      api.Message{From: 1, To: 2, Number: 3, Value: 1, Values: spare([]int{1}, 2), Body: spare([]byte{1}, 2)},
	}
}

// everything lists what arguments reach, their spare capacity too.
func (a arguments) everything() []any {
	l := []any{a.m.Values[:cap(a.m.Values)], a.m.Body[:cap(a.m.Body)]}
	for _, c := range []api.Coordinator{a.idle, a.freezing, a.thawing, a.wrong} {
		l = append(l, c.Positions[:cap(c.Positions)], c.Seen[:cap(c.Seen)])
	}
	for _, m := range []api.Member{a.free, a.frozen, a.bad} {
		l = append(l, m.Waiting[:cap(m.Waiting)], m.Held[:cap(m.Held)])
	}
	return l
}

// results are what the functions make of their arguments.
func results(t *testing.T, a arguments) []any {
	t.Helper()
	var l []any
	coordinator := func(c api.Coordinator, messages []api.Message) { l = append(l, &c, &messages) }
	member := func(m api.Member, acks []int, messages []api.Message) { l = append(l, &m, &acks, &messages) }
	c, messages, err := barrier.Start(a.idle, 1, 2)
	coordinator(c, messages)
	positions, ok := barrier.Result(a.idle)
	l = append(l, &positions)
	m, acks, code := barrier.Durable(a.free, 2)
	member(m, acks, nil)
	n, acks, other := barrier.Durable(a.frozen, 2)
	member(n, acks, nil)
	if err != api.OK || !ok || code != api.OK || other != api.OK {
		t.Fatalf("got %d, %t, %d, %d", err, ok, code, other)
	}
	for _, c := range []api.Coordinator{a.idle, a.freezing, a.thawing, a.wrong} {
		for _, kind := range []int{api.MsgFrozen, api.MsgThawed, api.MsgHello} {
			a.m.Kind = kind
			coordinator(barrier.Collect(c, 0, a.m))
		}
		coordinator(barrier.Expire(c, 1))
		coordinator(barrier.Expire(c, 10))
	}
	for _, m := range []api.Member{a.free, a.frozen, a.bad} {
		after, _ := barrier.Issue(m)
		l = append(l, &after)
		for _, kind := range []int{api.MsgFreeze, api.MsgThaw, api.MsgAbandon, api.MsgHello} {
			a.m.Kind = kind
			member(barrier.Obey(m, 1, 2, a.m))
		}
		early, acks := barrier.Release(m, 1)
		member(early, acks, nil)
		late, acks := barrier.Release(m, 10)
		member(late, acks, nil)
	}
	return l
}

// slicesOf returns all lists that a value reaches.
func slicesOf(v reflect.Value) []reflect.Value {
	var l []reflect.Value
	switch v.Kind() {
	case reflect.Slice:
		if v.Cap() > 0 {
			l = append(l, v)
		}
		for i := range v.Len() {
			l = append(l, slicesOf(v.Index(i))...)
		}
	case reflect.Struct:
		for i := range v.NumField() {
			l = append(l, slicesOf(v.Field(i))...)
		}
	}
	return l
}

// overlap reports whether two lists share memory.
func overlap(a, b reflect.Value) bool {
	size := func(v reflect.Value) uintptr { return uintptr(v.Cap()) * v.Type().Elem().Size() }
	return a.Pointer() < b.Pointer()+size(b) && b.Pointer() < a.Pointer()+size(a)
}

func TestValues(t *testing.T) {
	a := values()
	got := results(t, a)
	if !reflect.DeepEqual(a.everything(), values().everything()) {
		t.Error("the arguments are modified")
	}
	var all []reflect.Value
	for _, x := range got {
		all = append(all, slicesOf(reflect.ValueOf(x).Elem())...)
	}
	for i, v := range all {
		for _, w := range all[:i] {
			if overlap(v, w) {
				t.Errorf("two lists of the results share memory: %v, %v", v, w)
			}
		}
	}
	want := results(t, values())
	for _, argument := range []any{&a.idle, &a.freezing, &a.thawing, &a.wrong, &a.free, &a.frozen, &a.bad, &a.m} {
		spoil(reflect.ValueOf(argument).Elem())
	}
	if !reflect.DeepEqual(got, want) {
		t.Error("the results have changed with the arguments")
	}
	for i := range got {
		spoil(reflect.ValueOf(got[i]).Elem())
	}
	if again := results(t, values()); !reflect.DeepEqual(again, want) {
		t.Error("the results have changed with earlier ones")
	}
}
