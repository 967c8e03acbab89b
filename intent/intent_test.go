package intent_test

import (
	"math"
	"slices"
	"testing"

	"standby/api"
	"standby/extent"
	"standby/intent"
	"standby/wire"
)

// random returns numbers from 0 to n - 1 that look random.
func random(seed uint32) func(n int) int {
	return func(n int) int {
		seed = seed*1664525 + 1013904223
		return int(seed>>8) % n
	}
}

// at is the extent with a Start and a Count.
func at(start, count int) api.Extent {
	return api.Extent{Start: start, Count: count}
}

// layout is a size and a granule.
type layout struct{ size, granule int }

// layouts are small ones, those around the ends of words of a bitmap, and the limits.
func layouts() []layout {
	l := []layout{{20, 8}, {63, 1}, {64, 1}, {65, 1}, {127, 2}, {128, 2}, {129, 2}, {100, 7}, {4096, 1}, {4096, 64}, {4095, 64}, {4096, 4096}, {4095, 4096}, {1, 4096}, {4096, 4095}, {4096, 3}}
	for size := 1; size <= 7; size++ {
		for granule := 1; granule <= 8; granule++ {
			l = append(l, layout{size, granule})
		}
	}
	return l
}

// model is a log as the chapter defines it: the counter and the mark of each granule.
type model struct {
	layout
	active []int
	marked []bool
}

// fresh is the model without marks; there is a granule for each sector with a number that a granule divides.
func fresh(l layout) model {
	m := model{layout: l}
	for s := range l.size {
		if s%l.granule == 0 {
			m.active = append(m.active, 0)
			m.marked = append(m.marked, false)
		}
	}
	return m
}

func (m model) clone() model {
	m.active, m.marked = slices.Clone(m.active), slices.Clone(m.marked)
	return m
}

// log is the model as a log, bit by bit.
func (m model) log() api.Intent {
	i := api.Intent{Size: m.size, Granule: m.granule, Active: slices.Clone(m.active), Marked: api.Bitmap{Size: len(m.marked)}}
	for g, marked := range m.marked {
		if g%64 == 0 {
			i.Marked.Words = append(i.Marked.Words, 0)
		}
		if marked {
			i.Marked.Words[g/64] += 1 << (g % 64)
		}
	}
	return i
}

// allowed decides by the definition; the sum of two numbers that are not negative fits into a word without a sign.
func (m model) allowed(e api.Extent) bool {
	return e.Start >= 0 && e.Count >= 1 && uint64(e.Start)+uint64(e.Count) <= uint64(m.size)
}

// touched are the granules of the sectors of an allowed extent.
func (m model) touched(e api.Extent) []int {
	var l []int
	for s := e.Start; s < e.Start+e.Count; s++ {
		if g := s / m.granule; !slices.Contains(l, g) {
			l = append(l, g)
		}
	}
	return l
}

// begin is the definition of Begin.
func (m model) begin(e api.Extent) (model, bool, api.Errno) {
	if !m.allowed(e) {
		return model{}, false, api.ErrRange
	}
	after, demanded := m.clone(), false
	for _, g := range m.touched(e) {
		if m.active[g] == 4096 {
			return model{}, false, api.ErrMany
		}
		after.active[g]++
		after.marked[g] = true
		demanded = demanded || !m.marked[g]
	}
	return after, demanded, api.OK
}

// end is the definition of End.
func (m model) end(e api.Extent) (model, api.Errno) {
	if !m.allowed(e) {
		return model{}, api.ErrRange
	}
	after := m.clone()
	for _, g := range m.touched(e) {
		if m.active[g] == 0 {
			return model{}, api.ErrState
		}
		after.active[g]--
	}
	return after, api.OK
}

// clean is the definition of Clean.
func (m model) clean() (model, bool) {
	after, any := m.clone(), false
	for g, active := range m.active {
		any = any || active == 0 && m.marked[g]
		after.marked[g] = m.marked[g] && active > 0
	}
	return after, any
}

// count is the number of marks.
func (m model) count() int {
	n := 0
	for _, marked := range m.marked {
		if marked {
			n++
		}
	}
	return n
}

// runs are the canonical extents of the numbers below n for which something holds.
func runs(n int, holds func(int) bool) []api.Extent {
	var l []api.Extent
	for i := range n {
		switch last := len(l) - 1; {
		case !holds(i):
		case i > 0 && holds(i-1):
			l[last].Count++
		default:
			l = append(l, at(i, 1))
		}
	}
	return l
}

// granules are the canonical extents of the marked granules.
func (m model) granules() []api.Extent {
	return runs(len(m.marked), func(g int) bool { return m.marked[g] })
}

// sectors are the canonical extents of the sectors of the marked granules.
func (m model) sectors() []api.Extent {
	return runs(m.size, func(s int) bool { return m.marked[s/m.granule] })
}

// stored is the encoding of the model by the definition.
func (m model) stored() []byte {
	return encoded(m.size, m.granule, m.granules()...)
}

// encoded is an encoding with any numbers and extents.
func encoded(size, granule int, marked ...api.Extent) []byte {
	return wire.PutExtents(wire.PutInt(wire.PutInt(nil, size), granule), marked)
}

// models are logs of a layout: without marks, with all of them, with patterns and with numbers that look random.
func models(l layout) []model {
	var all []model
	next := random(uint32(l.size*5000 + l.granule))
	add := func(active func(g int) int, marked func(g int) bool) {
		m := fresh(l)
		for g := range m.active {
			m.active[g] = active(g)
			m.marked[g] = m.active[g] > 0 || marked(g)
		}
		all = append(all, m)
	}
	none, no := func(int) int { return 0 }, func(int) bool { return false }
	add(none, no)
	add(none, func(int) bool { return true })
	add(none, func(g int) bool { return g%2 == 1 })
	add(none, func(g int) bool { return g == 0 })
	add(func(int) int { return 1 }, no)
	add(func(int) int { return 4095 }, no)
	add(func(int) int { return 4096 }, no)
	add(func(g int) int { return g % 2 * 4096 }, func(int) bool { return true })
	add(func(g int) int { return g % 3 * 2 }, no)
	for range 3 {
		add(func(int) int { return max(0, next(5)-2) }, func(int) bool { return next(2) == 0 })
	}
	return all
}

// extentsFor are extents that are allowed in a size, and some that are not.
func extentsFor(l layout) []api.Extent {
	var all []api.Extent
	for _, start := range []int{math.MinInt, -l.granule, -1, 0, 1, 6, l.granule - 1, l.granule, l.granule + 1, 64 * l.granule, l.size - l.granule, l.size - 2, l.size - 1, l.size, l.size + 1, math.MaxInt} {
		for _, count := range []int{math.MinInt, -1, 0, 1, 2, 4, l.granule - 1, l.granule, l.granule + 1, 2 * l.granule, l.size - 1, l.size, l.size + 1, l.size - start, l.size - start + 1, math.MaxInt} {
			if e := at(start, count); !slices.Contains(all, e) {
				all = append(all, e)
			}
		}
	}
	return all
}

// malformed are logs that are not well-formed.
func malformed() []api.Intent {
	l := []api.Intent{{}, {Size: 0, Granule: 1}, {Size: 1, Granule: 0}, {Size: math.MinInt, Granule: math.MinInt}, {Size: math.MaxInt, Granule: math.MaxInt, Active: []int{0}, Marked: api.Bitmap{Size: 1, Words: []uint64{0}}}}
	// There are three granules, of which the second one is marked, and the third one active.
	change := func(f func(i *api.Intent)) {
		i := example().log()
		f(&i)
		l = append(l, i)
	}
	for _, n := range []int{math.MinInt, -20, -8, -1, 0, 4097, math.MaxInt} {
		change(func(i *api.Intent) { i.Size = n })
		change(func(i *api.Intent) { i.Granule = n })
		change(func(i *api.Intent) { i.Size, i.Granule = n, n })
	}
	// The numbers of granules that the counters and the marks have are not that of the sectors.
	for _, n := range []int{1, 8, 16, 25, 4096} {
		change(func(i *api.Intent) { i.Size = n })
	}
	for _, n := range []int{1, 6, 10, 20, 4096} {
		change(func(i *api.Intent) { i.Granule = n })
	}
	change(func(i *api.Intent) { i.Active = nil })
	change(func(i *api.Intent) { i.Active = i.Active[:2] })
	change(func(i *api.Intent) { i.Active = append(i.Active, 0) })
	change(func(i *api.Intent) { i.Marked = api.Bitmap{} })
	change(func(i *api.Intent) { i.Marked.Size = 4 })
	change(func(i *api.Intent) { i.Marked.Size = 20 })
	change(func(i *api.Intent) { i.Active, i.Marked = []int{0, 0}, api.Bitmap{Size: 2, Words: []uint64{0}} })
	// The bitmap is not well-formed, with and without active writes.
	for _, words := range [][]uint64{nil, {6, 0}, {6, 1}, {14}, {8}, {1<<63 + 6}} {
		change(func(i *api.Intent) { i.Marked.Words = words })
		change(func(i *api.Intent) { i.Marked.Words, i.Active = words, make([]int, 3) })
	}
	// Everything fits together, but for a size or a granule that is out of range.
	for _, c := range []layout{{4097, 4096}, {4097, 1}, {20, 4097}, {4096, 4097}, {1, math.MaxInt}, {4097, 4097}} {
		n := (c.size-1)/c.granule + 1
		l = append(l, api.Intent{Size: c.size, Granule: c.granule, Active: make([]int, n), Marked: api.Bitmap{Size: n, Words: make([]uint64, (n+63)/64)}})
	}
	// A counter is out of range, or that of a granule without a mark.
	for g := range 3 {
		for _, n := range []int{math.MinInt, -1, 4097, math.MaxInt} {
			change(func(i *api.Intent) { i.Marked.Words[0], i.Active[g] = 7, n })
		}
		for _, n := range []int{1, 4096} {
			change(func(i *api.Intent) { i.Marked.Words[0], i.Active = 7-1<<g, make([]int, 3); i.Active[g] = n })
		}
	}
	return l
}

// example is the log of 20 sectors in granules of 8, whose second granule is marked, and whose third one is active.
func example() model {
	return model{layout{20, 8}, []int{0, 0, 2}, []bool{false, true, true}}
}

func equal(a, b api.Intent) bool {
	return a.Size == b.Size && a.Granule == b.Granule && slices.Equal(a.Active, b.Active) && a.Marked.Size == b.Marked.Size && slices.Equal(a.Marked.Words, b.Marked.Words)
}

// expect reports a log or an error that is not the wanted one; beside an error the log has to be the zero value.
func expect(t *testing.T, what string, got api.Intent, err api.Errno, want api.Intent, code api.Errno) {
	t.Helper()
	if code != api.OK {
		want = api.Intent{}
	}
	if err != code || !equal(got, want) {
		t.Errorf("%s: got %v, %d, want %v, %d", what, got, err, want, code)
	}
}

// expectBegin does the same for the results of Begin.
func expectBegin(t *testing.T, i api.Intent, e api.Extent, want api.Intent, demanded bool, code api.Errno) {
	t.Helper()
	got, store, err := intent.Begin(i, e)
	expect(t, "Begin", got, err, want, code)
	if store != (demanded && code == api.OK) {
		t.Errorf("Begin of %v in %v: got %v, want %v", e, i, store, demanded)
	}
}

// expectRecover does the same for the results of Recover.
func expectRecover(t *testing.T, l layout, b []byte, want api.Intent, sectors []api.Extent, code api.Errno) {
	t.Helper()
	if code != api.OK {
		sectors = nil
	}
	got, found, err := intent.Recover(l.size, l.granule, b)
	expect(t, "Recover", got, err, want, code)
	if !slices.Equal(found, sectors) {
		t.Errorf("Recover of %v for %v: got %v, want %v", b, l, found, sectors)
	}
}

func TestP171Examples(t *testing.T) {
	i, err := intent.New(20, 8)
	expect(t, "New", i, err, api.Intent{Size: 20, Granule: 8, Active: []int{0, 0, 0}, Marked: api.Bitmap{Size: 3, Words: []uint64{0}}}, api.OK)
	i, store, err := intent.Begin(i, at(6, 4))
	expect(t, "Begin of 6, 4", i, err, api.Intent{Size: 20, Granule: 8, Active: []int{1, 1, 0}, Marked: api.Bitmap{Size: 3, Words: []uint64{3}}}, api.OK)
	if !store {
		t.Errorf("Begin of 6, 4 has marked two granules, and demands nothing")
	}
	i, store, err = intent.Begin(i, at(9, 1))
	expect(t, "Begin of 9, 1", i, err, api.Intent{Size: 20, Granule: 8, Active: []int{1, 2, 0}, Marked: api.Bitmap{Size: 3, Words: []uint64{3}}}, api.OK)
	if store {
		t.Errorf("Begin of 9, 1 demands that a log without a new mark is stored")
	}
	i, err = intent.End(i, at(6, 4))
	expect(t, "End of 6, 4", i, err, api.Intent{Size: 20, Granule: 8, Active: []int{0, 1, 0}, Marked: api.Bitmap{Size: 3, Words: []uint64{3}}}, api.OK)
	i, any := intent.Clean(i)
	expect(t, "Clean", i, api.OK, api.Intent{Size: 20, Granule: 8, Active: []int{0, 1, 0}, Marked: api.Bitmap{Size: 3, Words: []uint64{2}}}, api.OK)
	if !any {
		t.Errorf("Clean has removed a mark, and reports none")
	}
	// Granule 2 has the sectors 16 to 19.
	for s := range 20 {
		i, _ = intent.New(20, 8)
		i, _, err = intent.Begin(i, at(s, 1))
		if err != api.OK || (i.Active[2] == 1) != (s >= 16) {
			t.Errorf("Begin of %d, 1: got %v, %d", s, i, err)
		}
	}
}

func TestP171New(t *testing.T) {
	for _, l := range layouts() {
		got, err := intent.New(l.size, l.granule)
		expect(t, "New", got, err, fresh(l).log(), api.OK)
		if err := intent.Check(got); err != api.OK {
			t.Errorf("Check of a new log of %v: got %d", l, err)
		}
	}
	for _, n := range []int{math.MinInt, -1, 0, 4097, math.MaxInt} {
		for _, l := range []layout{{n, 1}, {n, 4096}, {1, n}, {4096, n}, {n, n}, {n, 0}, {0, n}, {n, math.MaxInt}} {
			got, err := intent.New(l.size, l.granule)
			expect(t, "New out of range", got, err, api.Intent{}, api.ErrRange)
		}
	}
}

func TestP171Check(t *testing.T) {
	for _, l := range layouts() {
		for _, m := range models(l) {
			if err := intent.Check(m.log()); err != api.OK {
				t.Errorf("Check of a log of %v: got %d", l, err)
			}
		}
	}
	for _, i := range malformed() {
		if err := intent.Check(i); err != api.ErrForm {
			t.Errorf("Check of %v: got %d", i, err)
		}
	}
}

func TestP171BeginAndEnd(t *testing.T) {
	for _, l := range layouts() {
		for _, m := range models(l) {
			i := m.log()
			for _, e := range extentsFor(l) {
				after, demanded, code := m.begin(e)
				expectBegin(t, i, e, after.log(), demanded, code)
				after, code = m.end(e)
				got, err := intent.End(i, e)
				expect(t, "End", got, err, after.log(), code)
			}
		}
	}
}

func TestP171BeginAndEndAll(t *testing.T) {
	// All extents of a log in which each granule has another number of active writes.
	m := model{layout{17, 3}, []int{0, 1, 4095, 4096, 0, 2}, []bool{false, true, true, true, true, true}}
	for start := -2; start <= 18; start++ {
		for count := -2; count <= 19; count++ {
			e := at(start, count)
			after, demanded, code := m.begin(e)
			expectBegin(t, m.log(), e, after.log(), demanded, code)
			after, code = m.end(e)
			got, err := intent.End(m.log(), e)
			expect(t, "End", got, err, after.log(), code)
		}
	}
}

func TestP171Limits(t *testing.T) {
	m := model{layout{24, 8}, []int{4095, 4096, 0}, []bool{true, true, false}}
	for _, c := range []struct {
		e          api.Extent
		begin, end api.Errno
	}{
		{at(0, 8), api.OK, api.OK}, {at(0, 9), api.ErrMany, api.OK}, {at(7, 2), api.ErrMany, api.OK}, {at(8, 1), api.ErrMany, api.OK}, {at(15, 1), api.ErrMany, api.OK},
		{at(15, 2), api.ErrMany, api.ErrState}, {at(16, 8), api.OK, api.ErrState}, {at(0, 24), api.ErrMany, api.ErrState}, {at(23, 1), api.OK, api.ErrState},
		// That an extent is not allowed comes first.
		{at(0, 25), api.ErrRange, api.ErrRange}, {at(-1, 10), api.ErrRange, api.ErrRange}, {at(8, 0), api.ErrRange, api.ErrRange}, {at(16, 0), api.ErrRange, api.ErrRange}, {at(8, -1), api.ErrRange, api.ErrRange}, {at(8, math.MaxInt), api.ErrRange, api.ErrRange}, {at(math.MaxInt, math.MaxInt), api.ErrRange, api.ErrRange}, {at(math.MinInt, math.MinInt), api.ErrRange, api.ErrRange}, {at(24, 1), api.ErrRange, api.ErrRange},
	} {
		if _, _, err := intent.Begin(m.log(), c.e); err != c.begin {
			t.Errorf("Begin of %v: got %d, want %d", c.e, err, c.begin)
		}
		if _, err := intent.End(m.log(), c.e); err != c.end {
			t.Errorf("End of %v: got %d, want %d", c.e, err, c.end)
		}
	}
	// A granule takes MaxWrites writes, and one more when one of them is complete.
	i, _ := intent.New(9, 4)
	for range 4096 {
		i, _, _ = intent.Begin(i, at(3, 2))
	}
	expect(t, "4096 writes", i, intent.Check(i), model{layout{9, 4}, []int{4096, 4096, 0}, []bool{true, true, false}}.log(), api.OK)
	expectBegin(t, i, at(4, 1), api.Intent{}, false, api.ErrMany)
	i, err := intent.End(i, at(4, 1))
	expect(t, "End", i, err, model{layout{9, 4}, []int{4096, 4095, 0}, []bool{true, true, false}}.log(), api.OK)
	expectBegin(t, i, at(5, 4), model{layout{9, 4}, []int{4096, 4096, 1}, []bool{true, true, true}}.log(), true, api.OK)
}

func TestP171Clean(t *testing.T) {
	for _, l := range layouts() {
		for _, m := range models(l) {
			want, any := m.clean()
			got, removed := intent.Clean(m.log())
			expect(t, "Clean", got, api.OK, want.log(), api.OK)
			if removed != any {
				t.Errorf("Clean of %v: got %v", m, removed)
			}
			again, removed := intent.Clean(got)
			expect(t, "Clean of a clean log", again, api.OK, want.log(), api.OK)
			if removed {
				t.Errorf("Clean of the clean log %v removes marks", m)
			}
		}
	}
}

func TestP171Malformed(t *testing.T) {
	for _, i := range malformed() {
		// The log is checked before the extent, and before its counters.
		for _, e := range []api.Extent{at(0, 1), at(16, 4), at(0, 20), at(-1, 1), at(0, 0), at(math.MaxInt, math.MaxInt), at(math.MinInt, math.MinInt)} {
			expectBegin(t, i, e, api.Intent{}, false, api.ErrForm)
			got, err := intent.End(i, e)
			expect(t, "End in a malformed log", got, err, api.Intent{}, api.ErrForm)
		}
		got, removed := intent.Clean(i)
		expect(t, "Clean of a malformed log", got, api.OK, i, api.OK)
		if removed {
			t.Errorf("Clean of the malformed log %v removes marks", i)
		}
	}
}

func TestP172Encode(t *testing.T) {
	m := example()
	if got, want := intent.Encode(m.log()), []byte{20, 8, 1, 1, 2}; !slices.Equal(got, want) {
		t.Errorf("Encode: got %v, want %v", got, want)
	}
	m.size, m.active, m.marked = 17, []int{4096, 0, 0}, []bool{true, false, true}
	if got, want := intent.Encode(m.log()), []byte{17, 8, 2, 0, 1, 2, 1}; !slices.Equal(got, want) {
		t.Errorf("Encode: got %v, want %v", got, want)
	}
	if got, want := intent.Encode(fresh(layout{4096, 128}).log()), []byte{128, 32, 128, 1, 0}; !slices.Equal(got, want) {
		t.Errorf("Encode of a new log: got %v, want %v", got, want)
	}
	for _, l := range layouts() {
		for _, m := range models(l) {
			if got, want := intent.Encode(m.log()), m.stored(); !slices.Equal(got, want) {
				t.Errorf("Encode of %v: got %v, want %v", m, got, want)
			}
		}
	}
	for _, i := range malformed() {
		if got := intent.Encode(i); len(got) > 0 {
			t.Errorf("Encode of %v: got %v", i, got)
		}
	}
}

// idle is a model in which no write is active.
func (m model) idle() model {
	m.active = make([]int, len(m.active))
	return m
}

func TestP172Recover(t *testing.T) {
	i, _ := intent.New(20, 8)
	i, _, _ = intent.Begin(i, at(6, 4))
	expectRecover(t, layout{20, 8}, intent.Encode(i), model{layout{20, 8}, []int{0, 0, 0}, []bool{true, true, false}}.log(), []api.Extent{at(0, 16)}, api.OK)
	expectRecover(t, layout{20, 8}, []byte{20, 8, 1, 1, 2}, example().idle().log(), []api.Extent{at(8, 12)}, api.OK)
	expectRecover(t, layout{20, 8}, []byte{20, 8, 2, 0, 1, 2, 1}, model{layout{20, 8}, []int{0, 0, 0}, []bool{true, false, true}}.log(), []api.Extent{at(0, 8), at(16, 4)}, api.OK)
	for _, l := range layouts() {
		for _, m := range models(l) {
			expectRecover(t, l, m.stored(), m.idle().log(), m.sectors(), api.OK)
		}
	}
}

func TestP172RecoverErrors(t *testing.T) {
	none := api.Intent{}
	for _, n := range []int{math.MinInt, -1, 0, 4097, math.MaxInt} {
		for _, l := range []layout{{n, 8}, {20, n}, {n, n}} {
			for _, b := range [][]byte{nil, {128}, {128, 0}, {20, 8, 0}, {20, 8, 0, 0}, {0, 0, 0}, encoded(l.size, l.granule)} {
				expectRecover(t, l, b, none, nil, api.ErrRange)
			}
		}
	}
	whole := encoded(300, 2, at(1, 2), at(130, 20))
	for n := range whole {
		// A beginning is torn, whatever size and granule are.
		expectRecover(t, layout{300, 2}, whole[:n], none, nil, api.ErrTorn)
		expectRecover(t, layout{20, 8}, whole[:n], none, nil, api.ErrTorn)
	}
	long := wire.PutInt([]byte{20, 8}, api.MaxBytes+1)
	for _, c := range []struct {
		b    []byte
		code api.Errno
	}{
		{nil, api.ErrTorn}, {[]byte{128, 0}, api.ErrForm}, {[]byte{20, 128, 0}, api.ErrForm}, {[]byte{20, 8, 128, 0}, api.ErrForm}, {[]byte{20, 8, 1, 128, 0}, api.ErrForm}, {[]byte{20, 8, 1, 0, 129, 0}, api.ErrForm},
		{[]byte{255, 255, 255, 255, 255, 255, 255, 16}, api.ErrForm}, {long, api.ErrLong}, {append(slices.Clone(long), 0), api.ErrLong}, {append([]byte{21}, long[1:]...), api.ErrLong},
		{[]byte{20, 8, 0, 0}, api.ErrForm}, {[]byte{20, 8, 1, 0, 1, 0}, api.ErrForm},
		{[]byte{20, 7, 0}, api.ErrMismatch}, {[]byte{21, 8, 0}, api.ErrMismatch}, {[]byte{8, 20, 0}, api.ErrMismatch}, {[]byte{0, 0, 0}, api.ErrMismatch}, {[]byte{24, 8, 1, 0, 1}, api.ErrMismatch}, {[]byte{20, 9, 1, 0, 1}, api.ErrMismatch}, {encoded(4097, 8), api.ErrMismatch}, {encoded(20, 1<<53-1), api.ErrMismatch},
		// What follows comes before the numbers, and these before the extents.
		{[]byte{21, 8, 0, 0}, api.ErrForm}, {[]byte{20, 7, 1, 3, 1, 0}, api.ErrForm}, {[]byte{20, 7, 1, 3, 1}, api.ErrMismatch}, {[]byte{21, 8, 1, 0, 0}, api.ErrMismatch},
	} {
		expectRecover(t, layout{20, 8}, c.b, none, nil, c.code)
	}
	// The extents are not canonical, or not within three granules.
	for _, marked := range [][]api.Extent{
		{at(0, 0)}, {at(1, 0)}, {at(3, 0)}, {at(0, 4)}, {at(3, 1)}, {at(2, 2)}, {at(4, 1)}, {at(0, 20)}, {at(1<<53-1, 1)}, {at(1, 1<<53-1)}, {at(1<<53-1, 1<<53-1)},
		{at(0, 1), at(1, 1)}, {at(0, 2), at(1, 2)}, {at(0, 1), at(0, 1)}, {at(2, 1), at(0, 1)}, {at(0, 1), at(2, 0)}, {at(0, 1), at(2, 2)}, {at(0, 0), at(2, 1)}, {at(0, 1), at(2, 1), at(3, 1)}, {at(0, 3), at(4, 1)},
	} {
		expectRecover(t, layout{20, 8}, encoded(20, 8, marked...), none, nil, api.ErrForm)
	}
}

func TestP172RecoverDamaged(t *testing.T) {
	// Whatever is stored, what Recover accepts is the encoding of what it returns.
	next := random(172)
	accepted := 0
	for range 200000 {
		b := []byte{20, 8}
		for range next(6) {
			b = append(b, byte(next(5)))
		}
		i, found, err := intent.Recover(20, 8, b)
		if err != api.OK {
			expect(t, "Recover", i, err, api.Intent{}, err)
			continue
		}
		accepted++
		if intent.Check(i) != api.OK || !slices.Equal(intent.Encode(i), b) || extent.Check(found, 20) != api.OK {
			t.Fatalf("Recover of %v: got %v, %v", b, i, found)
		}
	}
	if accepted == 0 {
		t.Errorf("no bytes were accepted")
	}
}

// site writes with a log: stored is what a crash leaves, writing are the writes that have begun and are not complete.
type site struct {
	model
	log     api.Intent
	stored  []byte
	writing []api.Extent
}

// begin begins a write, after the log is stored if that is demanded.
func (s *site) begin(t *testing.T, e api.Extent) {
	t.Helper()
	after, demanded, _ := s.model.begin(e)
	log, store, err := intent.Begin(s.log, e)
	if err != api.OK || store != demanded {
		t.Fatalf("Begin of %v in %v: got %v, %d", e, s.log, store, err)
	}
	s.model, s.log = after, log
	if store {
		s.stored = intent.Encode(log)
	}
	s.writing = append(s.writing, e)
}

// end completes one of the writes.
func (s *site) end(t *testing.T, n int) {
	t.Helper()
	s.model, _ = s.model.end(s.writing[n])
	log, err := intent.End(s.log, s.writing[n])
	if err != api.OK {
		t.Fatalf("End of %v in %v: got %d", s.writing[n], s.log, err)
	}
	s.log = log
	s.writing = slices.Delete(s.writing, n, n+1)
}

// clean removes marks; the log may be stored then.
func (s *site) clean(store bool) {
	s.model, _ = s.model.clean()
	s.log, _ = intent.Clean(s.log)
	if store {
		s.stored = intent.Encode(s.log)
	}
}

// crash recovers what is stored, and looks for the sectors of all writes that are not complete.
func (s *site) crash(t *testing.T) {
	t.Helper()
	i, found, err := intent.Recover(s.size, s.granule, s.stored)
	if err != api.OK || intent.Check(i) != api.OK || extent.Check(found, s.size) != api.OK {
		t.Fatalf("Recover of %v: got %v, %v, %d", s.stored, i, found, err)
	}
	for _, e := range s.writing {
		if len(extent.Subtract([]api.Extent{e}, found)) > 0 {
			t.Fatalf("Recover returns %v, and the write of %v is not complete", found, e)
		}
	}
	marks := 0
	for g := range s.active {
		if i.Marked.Words[g/64]>>(g%64)&1 == 1 {
			marks++
		}
		if i.Active[g] != 0 {
			t.Fatalf("in the recovered log %v writes are active", i)
		}
	}
	if extent.Count(found) > s.granule*marks {
		t.Fatalf("%d marked granules of %d sectors have the sectors %v", marks, s.granule, found)
	}
}

func TestP173Crashes(t *testing.T) {
	next := random(173)
	for _, l := range layouts() {
		if l.size > 200 {
			continue
		}
		log, _ := intent.New(l.size, l.granule)
		s := &site{model: fresh(l), log: log, stored: intent.Encode(log)}
		for range 400 {
			switch n := next(8); {
			case n < 4:
				start := next(l.size)
				s.begin(t, at(start, 1+next(min(l.size-start, 9))))
			case n < 7 && len(s.writing) > 0:
				s.end(t, next(len(s.writing)))
			case n == 7:
				s.clean(next(2) == 0)
			}
			if !equal(s.log, s.model.log()) {
				t.Fatalf("the log is %v, want %v", s.log, s.model.log())
			}
			s.crash(t)
		}
	}
}

func TestP173Marked(t *testing.T) {
	// Begin of an extent demands nothing exactly if it lies in marked granules.
	for _, m := range []model{example(), {layout{9, 2}, []int{0, 3, 0, 0, 1}, []bool{true, true, false, true, true}}} {
		for start := range m.size {
			for count := 1; count <= m.size-start; count++ {
				e := at(start, count)
				_, store, err := intent.Begin(m.log(), e)
				if inside := len(extent.Subtract([]api.Extent{e}, m.sectors())) == 0; err != api.OK || store == inside {
					t.Errorf("Begin of %v in %v: got %v, %d", e, m, store, err)
				}
			}
		}
	}
}

func TestP173Count(t *testing.T) {
	for _, l := range layouts() {
		for _, m := range models(l) {
			_, found, err := intent.Recover(l.size, l.granule, intent.Encode(m.log()))
			if err != api.OK || extent.Check(found, l.size) != api.OK || extent.Count(found) > l.granule*m.count() {
				t.Errorf("Recover of %v: got %v, %d", m, found, err)
			}
		}
	}
}

// spare returns a copy of a list with one more element in its spare capacity.
func spare[T any](l []T, beyond T) []T {
	return append(slices.Clone(l), beyond)[:len(l)]
}

// spoil changes everything that is reachable from a log.
func spoil(i api.Intent) {
	for n := range i.Active[:cap(i.Active)] {
		i.Active[:cap(i.Active)][n] = 77
	}
	for n := range i.Marked.Words[:cap(i.Marked.Words)] {
		i.Marked.Words[:cap(i.Marked.Words)][n] = 77
	}
}

func TestValues(t *testing.T) {
	logs := malformed()
	for _, l := range layouts() {
		for _, m := range models(l) {
			logs = append(logs, m.log())
		}
	}
	for _, i := range logs {
		for _, f := range []func(i api.Intent) api.Intent{
			func(i api.Intent) api.Intent { after, _, _ := intent.Begin(i, at(0, 1)); return after },
			func(i api.Intent) api.Intent { after, _ := intent.End(i, at(0, 1)); return after },
			func(i api.Intent) api.Intent { after, _ := intent.Clean(i); return after },
			func(i api.Intent) api.Intent {
				after, _, _ := intent.Recover(i.Size, i.Granule, intent.Encode(i))
				intent.Check(i)
				return after
			},
		} {
			arg, want := i, f(i)
			arg.Active, arg.Marked.Words = spare(i.Active, 55), spare(i.Marked.Words, 55)
			got := f(arg)
			if !equal(arg, i) || arg.Active[:len(i.Active)+1][len(i.Active)] != 55 || arg.Marked.Words[:len(i.Marked.Words)+1][len(i.Marked.Words)] != 55 {
				t.Fatalf("the log %v is modified: %v", i, arg)
			}
			spoil(arg)
			if !equal(got, want) {
				t.Fatalf("got %v after a change of the argument, want %v", got, want)
			}
			arg.Active, arg.Marked.Words = slices.Clone(i.Active), slices.Clone(i.Marked.Words)
			spoil(f(arg))
			if !equal(arg, i) {
				t.Fatalf("a change of the result has changed the log %v: %v", i, arg)
			}
		}
	}
	b := spare(example().stored(), 55)
	i, found, _ := intent.Recover(20, 8, b)
	if !slices.Equal(b[:len(b)+1], append(example().stored(), 55)) {
		t.Errorf("the encoding is modified: %v", b[:len(b)+1])
	}
	clear(b)
	found[0] = at(7, 7)
	if !equal(i, example().idle().log()) {
		t.Errorf("the recovered log has become %v", i)
	}
}
