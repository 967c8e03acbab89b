package spill_test

import (
	"fmt"
	"math"
	"reflect"
	"slices"
	"testing"

	"standby/api"
	"standby/bitmap"
	"standby/coalesce"
	"standby/cycle"
	"standby/image"
	"standby/spill"
)

// random returns numbers from 0 to n - 1 that look random.
func random(seed uint32) func(n int) int {
	return func(n int) int {
		seed = seed*1664525 + 1013904223
		return int(seed>>8) % n
	}
}

// list are sectors with letters; a dot is a zero sector.
func list(letters string) []api.Sector {
	var l []api.Sector
	for _, c := range []byte(letters) {
		if c == '.' {
			c = 0
		}
		l = append(l, api.Sector{0, 0, 0, c, 0, 0, 0, 0})
	}
	return l
}

// to is a write of letters.
func to(volume, start int, letters string) api.Write {
	return api.Write{Volume: volume, Start: start, Data: list(letters)}
}

// picture is the image whose volumes have letters.
func picture(volumes ...string) api.Image {
	var im api.Image
	for _, letters := range volumes {
		im = append(im, list(letters))
	}
	return im
}

// largest are sizes that are as large as possible.
func largest() []int {
	return []int{4096, 4096, 4096, 4096, 4096, 4096, 4096, 4096}
}

// from is a cycle with a Base and a Number.
func from(base, number int, writes ...api.Write) api.Cycle {
	return api.Cycle{Base: base, Number: number, Time: number, Positions: []int{base, number}, Writes: writes}
}

// bits is the bitmap of a size that contains some sectors.
func bits(size int, sectors ...int) api.Bitmap {
	b := api.Bitmap{Size: size, Words: make([]uint64, (size+63)/64)}
	for _, sector := range sectors {
		b.Words[sector/64] |= 1 << (sector % 64)
	}
	return b
}

// queue is a queue in the queueing state, with the sizes 4 and 70, that leads from a cut to another one.
func queue(limit, first, last int, cycles ...api.Cycle) api.Spill {
	return api.Spill{Limit: limit, Sizes: []int{4, 70}, Cycles: cycles, First: first, Last: last}
}

// flooded is a queue in the overflow state, with the sizes of some bitmaps.
func flooded(limit, first, last int, dirty ...api.Bitmap) api.Spill {
	s := api.Spill{Limit: limit, Overflow: true, First: first, Last: last, Dirty: dirty}
	for _, b := range dirty {
		s.Sizes = append(s.Sizes, b.Size)
	}
	return s
}

func sameWrite(a, b api.Write) bool {
	return a.Volume == b.Volume && a.Start == b.Start && slices.Equal(a.Data, b.Data)
}

func sameCycle(a, b api.Cycle) bool {
	return a.Base == b.Base && a.Number == b.Number && a.Time == b.Time && slices.Equal(a.Positions, b.Positions) && slices.EqualFunc(a.Writes, b.Writes, sameWrite)
}

func same(a, b api.Spill) bool {
	sameBits := func(a, b api.Bitmap) bool { return a.Size == b.Size && slices.Equal(a.Words, b.Words) }
	return a.Limit == b.Limit && slices.Equal(a.Sizes, b.Sizes) && slices.EqualFunc(a.Cycles, b.Cycles, sameCycle) && a.Overflow == b.Overflow &&
		a.First == b.First && a.Last == b.Last && slices.EqualFunc(a.Dirty, b.Dirty, sameBits)
}

// brief is the beginning of the text of a value.
func brief(value any) string {
	text := fmt.Sprint(value)
	return text[:min(len(text), 500)]
}

// expectDrain reports a queue, a cycle or an error that are not the wanted ones; beside an error the others have to be empty.
func expectDrain(t *testing.T, what string, got api.Spill, c api.Cycle, err api.Errno, want api.Spill, wanted api.Cycle, code api.Errno) {
	t.Helper()
	if err != code || !same(got, want) || !sameCycle(c, wanted) {
		t.Errorf("%s: got %s, %s, %d, want %s, %s, %d", what, brief(got), brief(c), err, brief(want), brief(wanted), code)
	}
	if check := spill.Check(got); err == api.OK && check != api.OK {
		t.Errorf("%s: Check: got %d", what, check)
	}
}

func expect(t *testing.T, what string, got api.Spill, err api.Errno, want api.Spill, code api.Errno) {
	t.Helper()
	expectDrain(t, what, got, api.Cycle{}, err, want, api.Cycle{}, code)
}

// wrongSizes are sizes that are not correct, with their errors.
func wrongSizes() map[api.Errno][][]int {
	return map[api.Errno][][]int{
		api.ErrMany:  {nil, {}, slices.Repeat([]int{1}, 9), slices.Repeat([]int{0}, 9)},
		api.ErrRange: {{0}, {4, 0}, {4097, 70}, {4, -1}, {math.MaxInt}, {math.MinInt, 70}},
	}
}

// queues are well-formed queues.
func queues() []api.Spill {
	a, b, c := from(4, 5, to(0, 1, "ab"), to(1, 3, "c")), from(5, 9, to(0, 0, "d")), from(9, 10)
	empty := flooded(1, 0, 1, bits(1))
	whole := flooded(1024, 7, api.MaxTime, bits(64), bits(1, 0), bits(4096, 0, 63, 64, 4095))
	for i := range whole.Dirty[0].Words {
		whole.Dirty[0].Words[i] = math.MaxUint64
	}
	l := []api.Spill{
		queue(1, 0, 0), queue(1024, 0, 0), queue(3, 77, 77), queue(2, api.MaxTime, api.MaxTime), {Limit: 5, Sizes: []int{1}}, {Limit: 5, Sizes: largest(), First: 8, Last: 8},
		queue(1, 4, 5, a), queue(2, 4, 5, a), queue(2, 4, 9, a, b), queue(3, 4, 9, a, b), queue(3, 4, 10, a, b, c), queue(1024, 4, 10, a, b, c), queue(2, 9, 10, c),
		queue(1, 0, api.MaxTime, from(0, api.MaxTime, to(1, 69, "z"))), queue(2, 3, api.MaxTime, from(3, api.MaxTime-1), from(api.MaxTime-1, api.MaxTime)),
		{Limit: 2, Sizes: []int{4096, 1}, Cycles: []api.Cycle{{Number: 3, Writes: []api.Write{to(0, 4095, "y"), to(1, 0, "x")}}}, Last: 3},
		empty, whole, flooded(2, 4, 10, bits(4), bits(70)), flooded(2, 4, 10, bits(4, 0, 1, 2, 3), bits(70, 0, 63, 64, 69)), flooded(1, 9, 10, bits(4, 2), bits(70, 5, 6, 8)),
	}
	most := queue(api.MaxCycles, 3, 3+api.MaxCycles)
	for i := range api.MaxCycles {
		most.Cycles = append(most.Cycles, from(3+i, 4+i, to(1, i%70, "q")))
	}
	return append(l, most)
}

// wrongCycles are cycles from 5 to 9 that are not in order for the sizes 4 and 70, with their errors.
func wrongCycles() map[api.Errno][]api.Cycle {
	wrong := map[api.Errno][]api.Cycle{}
	add := func(code api.Errno, change func(c *api.Cycle)) {
		c := from(5, 9, to(0, 0, "d"), to(1, 7, "e"))
		change(&c)
		wrong[code] = append(wrong[code], c)
	}
	add(api.ErrTime, func(c *api.Cycle) { c.Time = -1 })
	add(api.ErrTime, func(c *api.Cycle) { c.Time = api.MaxTime + 1 })
	add(api.ErrMany, func(c *api.Cycle) { c.Positions = make([]int, 9) })
	add(api.ErrRange, func(c *api.Cycle) { c.Positions[1] = -1 })
	add(api.ErrRange, func(c *api.Cycle) { c.Positions[0] = math.MaxInt })
	add(api.ErrNone, func(c *api.Cycle) { c.Writes[1].Volume = 2 })
	add(api.ErrArg, func(c *api.Cycle) { c.Writes[0].Data = nil })
	add(api.ErrRange, func(c *api.Cycle) { c.Writes[0].Start = 4 })
	add(api.ErrRange, func(c *api.Cycle) { c.Writes[1].Start = 70 })
	add(api.ErrForm, func(c *api.Cycle) { c.Writes[1] = to(0, 1, "f") })
	return wrong
}

// wrongNumbers are pairs of a Base and a Number of no cycle.
func wrongNumbers() [][2]int {
	return [][2]int{{5, 5}, {5, 4}, {5, 0}, {5, -1}, {-1, 5}, {5, api.MaxTime + 1}, {5, math.MaxInt}, {math.MinInt, 5}, {5, math.MinInt}, {api.MaxTime, api.MaxTime + 1}}
}

// wrong is a queue that is not well-formed, with the error of Check.
type wrong struct {
	what string
	s    api.Spill
	err  api.Errno
}

// changed are two queues behind a change: one that can have two more cycles, and one that has overflowed.
func changed(what string, change func(s *api.Spill), err api.Errno) []wrong {
	a := queue(4, 4, 9, from(4, 5, to(0, 1, "ab"), to(1, 3, "c")), from(5, 9, to(0, 0, "d")))
	b := flooded(3, 4, 9, bits(4, 1, 2), bits(70, 3, 65))
	change(&a)
	change(&b)
	return []wrong{{what + ", queueing", a, err}, {what + ", overflow", b, err}}
}

// wrongQueues are queues that are not well-formed.
func wrongQueues() []wrong {
	var l []wrong
	for code, all := range wrongSizes() {
		for _, sizes := range all {
			l = append(l, changed("wrong sizes", func(s *api.Spill) { s.Sizes = sizes }, code)...)
			l = append(l, changed("wrong sizes and limit", func(s *api.Spill) { s.Sizes, s.Limit, s.First = sizes, 0, -1 }, code)...)
		}
	}
	for _, limit := range []int{0, -1, math.MinInt, 1025, math.MaxInt} {
		l = append(l, changed("Limit", func(s *api.Spill) { s.Limit = limit }, api.ErrForm)...)
	}
	for _, numbers := range [][2]int{{-1, 9}, {10, 9}, {9, 4}, {-2, -1}, {4, math.MaxInt}, {4, api.MaxTime + 1}, {math.MinInt, 9}, {math.MinInt, math.MaxInt}, {4, math.MinInt}, {math.MaxInt, 9}, {9, 9}, {4, 4}} {
		l = append(l, changed("First and Last", func(s *api.Spill) { s.First, s.Last = numbers[0], numbers[1] }, api.ErrForm)...)
	}
	l = append(l, changed("the other state", func(s *api.Spill) { s.Overflow = !s.Overflow }, api.ErrForm)...)
	l = append(l, changed("cycles and bitmaps", func(s *api.Spill) {
		s.Cycles, s.Dirty = []api.Cycle{from(4, 9)}, []api.Bitmap{bits(4), bits(70)}
	}, api.ErrForm)...)
	l = append(l, changed("no cycles and no bitmaps", func(s *api.Spill) { s.Cycles, s.Dirty = nil, nil }, api.ErrForm)...)
	return slices.Concat(l, wrongQueueing(), wrongOverflow())
}

// wrongQueueing are queues in the queueing state whose cycles are not as they should be.
func wrongQueueing() []wrong {
	var l []wrong
	add := func(what string, s api.Spill) { l = append(l, wrong{what, s, api.ErrForm}) }
	a, b, c := from(4, 5, to(0, 1, "ab")), from(5, 9, to(0, 0, "d")), from(9, 10)
	add("too many cycles", queue(1, 4, 9, a, b))
	add("one cycle too many", queue(2, 4, 10, a, b, c))
	add("cycles in another order", queue(3, 4, 10, a, c, b))
	add("a cycle that is missing", queue(3, 4, 10, a, c))
	add("a first cycle that is missing", queue(3, 4, 10, b, c))
	add("a last cycle that is missing", queue(3, 4, 10, a, b))
	add("a cycle twice", queue(3, 4, 9, a, b, b))
	add("First before the cycles", queue(3, 3, 9, a, b))
	add("First behind the first Base", queue(3, 5, 9, a, b))
	add("Last before the last Number", queue(3, 4, 8, a, b))
	add("Last behind the last Number", queue(3, 4, 11, a, b, c))
	add("a cycle that leads nowhere", queue(3, 4, 4, from(4, 4)))
	add("a cycle that leads back", queue(3, 4, 5, from(4, 9), from(9, 5)))
	add("no cycles", queue(3, 4, 5))
	for _, all := range wrongCycles() {
		for _, x := range all {
			add("a wrong only cycle", queue(3, 5, 9, x))
			add("a wrong cycle "+brief(x), queue(3, 4, 10, a, x, c))
			add("a wrong last cycle", queue(3, 4, 9, a, x))
		}
	}
	for _, numbers := range wrongNumbers() {
		add("a cycle with wrong numbers", queue(3, 4, 10, a, from(numbers[0], numbers[1]), c))
		add("only a cycle with wrong numbers", queue(3, numbers[0], numbers[1], from(numbers[0], numbers[1])))
	}
	dirty := queue(3, 4, 9, a, b)
	dirty.Dirty = []api.Bitmap{bits(4), bits(70)}
	add("bitmaps", dirty)
	dirty.Dirty = make([]api.Bitmap, 1)
	add("an empty bitmap", dirty)
	return l
}

// wrongOverflow are queues in the overflow state whose bitmaps are not as they should be.
func wrongOverflow() []wrong {
	var l []wrong
	add := func(what string, dirty ...api.Bitmap) {
		s := flooded(3, 4, 9, dirty...)
		s.Sizes = []int{4, 70}
		l = append(l, wrong{what, s, api.ErrForm})
	}
	add("no bitmaps")
	add("a bitmap too few", bits(4))
	add("a bitmap too many", bits(4), bits(70), bits(4))
	add("bitmaps in another order", bits(70), bits(4))
	add("a small bitmap", bits(3), bits(70))
	add("a large bitmap", bits(4), bits(71))
	add("a bit beyond the size", api.Bitmap{Size: 4, Words: []uint64{16}}, bits(70))
	add("a bit beyond the last size", bits(4), api.Bitmap{Size: 70, Words: []uint64{0, 64}})
	add("a word too few", bits(4), api.Bitmap{Size: 70, Words: []uint64{0}})
	add("a word too many", api.Bitmap{Size: 4, Words: []uint64{0, 0}}, bits(70))
	add("no words", api.Bitmap{Size: 4}, bits(70))
	add("zero bitmaps", api.Bitmap{}, api.Bitmap{})
	one := flooded(3, 4, 9, bits(4), bits(70))
	one.Cycles = []api.Cycle{from(4, 9)}
	return append(l, wrong{"a cycle", one, api.ErrForm}, wrong{"the zero queue", api.Spill{}, api.ErrMany})
}

func TestP241New(t *testing.T) {
	for _, limit := range []int{1, 2, 1023, 1024, 0, -1, 1025, math.MaxInt, math.MinInt} {
		for _, sizes := range [][]int{{1}, {4, 70}, {4096, 1, 4096}, largest()} {
			want, code := api.Spill{Limit: limit, Sizes: sizes}, api.OK
			if limit < 1 || limit > 1024 {
				want, code = api.Spill{}, api.ErrRange
			}
			got, err := spill.New(sizes, limit)
			expect(t, fmt.Sprint("New with the limit ", limit), got, err, want, code)
		}
		for code, all := range wrongSizes() {
			for _, sizes := range all {
				got, err := spill.New(sizes, limit)
				expect(t, fmt.Sprint("New with the sizes ", sizes), got, err, api.Spill{}, code)
			}
		}
	}
}

func TestP241Check(t *testing.T) {
	for i, s := range queues() {
		if got := spill.Check(s); got != api.OK {
			t.Errorf("Check of the queue %d: got %d", i, got)
		}
	}
	for _, x := range wrongQueues() {
		if got := spill.Check(x.s); got != x.err {
			t.Errorf("Check with %s: got %d, want %d", x.what, got, x.err)
		}
	}
}

// pushed is a queue behind a cycle, by the definition.
func pushed(s api.Spill, c api.Cycle) api.Spill {
	s.Last = c.Number
	cycles := append(slices.Clip(s.Cycles), c)
	if !s.Overflow && len(cycles) <= s.Limit {
		s.Cycles = cycles
		return s
	}
	var dirty []api.Bitmap
	for volume, size := range s.Sizes {
		var sectors []int
		for sector := range size {
			if s.Overflow && s.Dirty[volume].Words[sector/64]>>(sector%64)&1 == 1 {
				sectors = append(sectors, sector)
			}
		}
		for _, x := range cycles {
			for _, w := range x.Writes {
				for i := range w.Data {
					if w.Volume == volume {
						sectors = append(sectors, w.Start+i)
					}
				}
			}
		}
		dirty = append(dirty, bits(size, sectors...))
	}
	s.Overflow, s.Cycles, s.Dirty = true, nil, dirty
	return s
}

// successors are cycles that may follow a queue.
func successors(s api.Spill) []api.Cycle {
	var l []api.Cycle
	for _, number := range []int{s.Last + 1, s.Last + 7, api.MaxTime - 1, api.MaxTime} {
		if number <= s.Last || number > api.MaxTime {
			continue
		}
		volume := len(s.Sizes) - 1
		size := s.Sizes[volume]
		l = append(l, from(s.Last, number), from(s.Last, number, api.Write{Volume: volume, Data: make([]api.Sector, size)}), api.Cycle{Base: s.Last, Number: number, Time: api.MaxTime, Writes: []api.Write{to(0, s.Sizes[0]-1, "n")}})
		if volume > 0 && size > 1 {
			l = append(l, from(s.Last, number, to(0, 0, "m"), to(volume, size-2, "pq")))
		}
	}
	return l
}

func TestP241Push(t *testing.T) {
	for i, s := range queues() {
		for _, c := range successors(s) {
			got, err := spill.Push(s, c)
			expect(t, fmt.Sprint("Push to the queue ", i), got, err, pushed(s, c), api.OK)
			for _, next := range successors(got) {
				again, err := spill.Push(got, next)
				expect(t, fmt.Sprint("Push twice to the queue ", i), again, err, pushed(got, next), api.OK)
			}
		}
	}
	// The bitmaps contain what the queued cycles and the new one write.
	s := queue(2, 4, 9, from(4, 5, to(0, 1, "ab"), to(1, 3, "c")), from(5, 9, to(0, 0, "d"), to(1, 63, "ef")))
	got, err := spill.Push(s, from(9, 12, to(1, 69, "g")))
	expect(t, "Push to a full queue", got, err, flooded(2, 4, 12, bits(4, 0, 1, 2), bits(70, 3, 63, 64, 69)), api.OK)
	got, err = spill.Push(got, from(12, 13, to(0, 2, "hi"), to(1, 4, "k")))
	expect(t, "Push behind an overflow", got, err, flooded(2, 4, 13, bits(4, 0, 1, 2, 3), bits(70, 3, 4, 63, 64, 69)), api.OK)
}

func TestP241PushErrors(t *testing.T) {
	for _, x := range wrongQueues() {
		for _, c := range []api.Cycle{from(9, 10), from(9, 9), from(3, 4), {Base: -1, Time: -1}} {
			got, err := spill.Push(x.s, c)
			expect(t, "Push with "+x.what, got, err, api.Spill{}, x.err)
		}
	}
	for _, s := range []api.Spill{queue(2, 5, 5), queue(1, 4, 5, from(4, 5)), flooded(1, 2, 5, bits(4), bits(70)), queue(2, 6, 6), flooded(1, 2, 7, bits(4), bits(70))} {
		for code, all := range wrongCycles() {
			for _, c := range all {
				got, err := spill.Push(s, c)
				expect(t, "Push of "+brief(c), got, err, api.Spill{}, code)
			}
		}
		for _, numbers := range wrongNumbers() {
			got, err := spill.Push(s, from(numbers[0], numbers[1]))
			expect(t, fmt.Sprint("Push of a cycle with the numbers ", numbers), got, err, api.Spill{}, api.ErrRange)
		}
		for _, base := range []int{0, s.First - 1, s.Last - 1, s.Last + 1, s.Last + 2} {
			got, err := spill.Push(s, from(base, base+1))
			expect(t, fmt.Sprint("Push of a cycle from ", base), got, err, api.Spill{}, api.ErrGap)
			got, err = spill.Push(s, from(base, s.Last+5))
			expect(t, fmt.Sprint("Push of a cycle from ", base, " that leads farther"), got, err, api.Spill{}, api.ErrGap)
		}
	}
	last := queue(2, api.MaxTime, api.MaxTime)
	got, err := spill.Push(last, from(api.MaxTime, api.MaxTime+1))
	expect(t, "Push behind the last cut", got, err, api.Spill{}, api.ErrRange)
}

func TestP241Front(t *testing.T) {
	expectFront := func(what string, s api.Spill, want api.Cycle, wanted bool) {
		t.Helper()
		if got, found := spill.Front(s); !sameCycle(got, want) || found != wanted {
			t.Errorf("Front of %s: got %s, %t, want %s, %t", what, brief(got), found, brief(want), wanted)
		}
	}
	for i, s := range queues() {
		if len(s.Cycles) > 0 {
			expectFront(fmt.Sprint("the queue ", i), s, s.Cycles[0], true)
		} else {
			expectFront(fmt.Sprint("the queue ", i), s, api.Cycle{}, false)
		}
	}
	for _, x := range wrongQueues() {
		expectFront("a queue with "+x.what, x.s, api.Cycle{}, false)
	}
}

// numbers are those up to which Pop is tried.
func numbers(s api.Spill) []int {
	l := []int{0, 1, s.First, s.Last, s.First - 1, s.Last + 1, s.First + 1, s.Last - 1, api.MaxTime, api.MaxTime + 1, -1, math.MaxInt, math.MinInt}
	for i, c := range s.Cycles {
		if i < 5 || i > len(s.Cycles)-3 {
			l = append(l, c.Base, c.Number, c.Number+1)
		}
	}
	return l
}

func TestP242Pop(t *testing.T) {
	for i, s := range queues() {
		for _, number := range numbers(s) {
			want, code := s, api.OK
			end := slices.IndexFunc(s.Cycles, func(c api.Cycle) bool { return c.Number == number })
			switch {
			case s.Overflow:
				code = api.ErrState
			case number < s.First || number > s.Last:
				code = api.ErrRange
			case number != s.First && end < 0:
				code = api.ErrNone
			default:
				want.First, want.Cycles = number, s.Cycles[end+1:]
			}
			if code != api.OK {
				want = api.Spill{}
			}
			got, err := spill.Pop(s, number)
			expect(t, fmt.Sprint("Pop of ", number, " from the queue ", i), got, err, want, code)
		}
	}
	s := queue(3, 4, 10, from(4, 5, to(0, 1, "a")), from(5, 9), from(9, 10, to(0, 1, "b")))
	for number, want := range map[int]api.Spill{4: s, 5: queue(3, 5, 10, s.Cycles[1:]...), 9: queue(3, 9, 10, s.Cycles[2]), 10: queue(3, 10, 10)} {
		got, err := spill.Pop(s, number)
		expect(t, fmt.Sprint("Pop of ", number), got, err, want, api.OK)
	}
	for _, number := range []int{6, 7, 8} {
		got, err := spill.Pop(s, number)
		expect(t, fmt.Sprint("Pop of ", number), got, err, api.Spill{}, api.ErrNone)
	}
}

func TestP242PopErrors(t *testing.T) {
	for _, x := range wrongQueues() {
		for _, number := range []int{4, 9, -1, 5, 6, 11} {
			got, err := spill.Pop(x.s, number)
			expect(t, "Pop with "+x.what, got, err, api.Spill{}, x.err)
		}
	}
}

// scene is an image of some sizes whose sectors differ from each other.
func scene(sizes []int) api.Image {
	var im api.Image
	for volume, size := range sizes {
		sectors := make([]api.Sector, size)
		for i := range sectors {
			sectors[i] = api.Sector{1, byte(volume), byte(i), byte(i >> 8)}
		}
		im = append(im, sectors)
	}
	return im
}

// drained is a queue that has overflowed, and the cycle with what it has given up, by the definition.
func drained(s api.Spill, im api.Image, time int) (api.Spill, api.Cycle) {
	c := api.Cycle{Base: s.First, Number: s.Last, Time: time}
	for volume, size := range s.Sizes {
		// A write is open as long as sector follows sector.
		open := false
		for sector := range size {
			dirty := s.Dirty[volume].Words[sector/64]>>(sector%64)&1 == 1
			if dirty && !open {
				c.Writes = append(c.Writes, api.Write{Volume: volume, Start: sector})
			}
			open = dirty
			if dirty {
				w := &c.Writes[len(c.Writes)-1]
				w.Data = append(w.Data, im[volume][sector])
			}
		}
	}
	s.Overflow, s.Dirty, s.Cycles = false, nil, []api.Cycle{c}
	return s, c
}

func TestP242Drain(t *testing.T) {
	for i, s := range queues() {
		for _, time := range []int{0, 1, 5, api.MaxTime} {
			if s.Overflow {
				im := scene(s.Sizes)
				want, wanted := drained(s, im, time)
				got, c, err := spill.Drain(s, im, time)
				expectDrain(t, fmt.Sprint("Drain of the queue ", i), got, c, err, want, wanted, api.OK)
			}
		}
	}
	s := flooded(2, 4, 9, bits(4, 0, 3), bits(6, 1, 2, 3))
	c := api.Cycle{Base: 4, Number: 9, Time: 7, Writes: []api.Write{to(0, 0, "a"), to(0, 3, "."), to(1, 1, "fgh")}}
	want := api.Spill{Limit: 2, Sizes: []int{4, 6}, Cycles: []api.Cycle{c}, First: 4, Last: 9}
	got, made, err := spill.Drain(s, picture("abc.", "efghik"), 7)
	expectDrain(t, "Drain", got, made, err, want, c, api.OK)
}

func TestP242DrainErrors(t *testing.T) {
	expectError := func(what string, s api.Spill, im api.Image, time int, want api.Errno) {
		t.Helper()
		got, c, err := spill.Drain(s, im, time)
		expectDrain(t, "Drain with "+what, got, c, err, api.Spill{}, api.Cycle{}, want)
	}
	good := scene([]int{4, 70})
	wrongImages := map[api.Errno][]api.Image{
		api.ErrMany:  {nil, {}, scene(slices.Repeat([]int{1}, 9)), scene(slices.Repeat([]int{0}, 9))},
		api.ErrRange: {scene([]int{4, 0}), scene([]int{0, 70}), scene([]int{4, 4097})},
	}
	for _, x := range wrongQueues() {
		for _, im := range []api.Image{good, nil, scene([]int{4})} {
			expectError(x.what, x.s, im, 5, x.err)
			expectError(x.what+" and a wrong time", x.s, im, -1, x.err)
		}
	}
	overflowing := flooded(3, 4, 9, bits(4, 1), bits(70, 3))
	queueing := queue(3, 4, 9, from(4, 9, to(0, 1, "a")))
	for _, time := range []int{5, -1, api.MaxTime + 1, math.MaxInt, math.MinInt} {
		for code, all := range wrongImages {
			for _, im := range all {
				expectError("a wrong image", overflowing, im, time, code)
				expectError("a wrong image and cycles", queueing, im, time, code)
			}
		}
		for _, sizes := range [][]int{{4, 70}, {4}, {4, 71}} {
			expectError("cycles", queueing, scene(sizes), time, api.ErrState)
			expectError("nothing", queue(3, 9, 9), scene(sizes), time, api.ErrState)
		}
		for _, sizes := range [][]int{{4}, {70}, {4, 71}, {4, 69}, {5, 70}, {70, 4}, {4, 70, 1}, {4, 70, 4, 70}} {
			expectError(fmt.Sprint("an image of the sizes ", sizes), overflowing, scene(sizes), time, api.ErrMismatch)
		}
		if time != 5 {
			expectError(fmt.Sprint("the time ", time), overflowing, good, time, api.ErrTime)
		}
	}
}

func TestExamples(t *testing.T) {
	s, err := spill.New([]int{4}, 2)
	cycles := []api.Cycle{from(0, 1, to(0, 1, "a")), from(1, 2, to(0, 2, "b")), from(2, 3, to(0, 1, "c"))}
	for _, c := range cycles[:2] {
		if err == api.OK {
			s, err = spill.Push(s, c)
		}
	}
	if err != api.OK {
		t.Fatalf("got %d", err)
	}
	full, err := spill.Push(s, cycles[2])
	expect(t, "example 1, Push", full, err, flooded(2, 0, 3, bits(4, 1, 2)), api.OK)
	drained, c, err := spill.Drain(full, picture(".cb."), 8)
	want := api.Cycle{Number: 3, Time: 8, Writes: []api.Write{to(0, 1, "cb")}}
	expectDrain(t, "example 1, Drain", drained, c, err, api.Spill{Limit: 2, Sizes: []int{4}, Cycles: []api.Cycle{want}, Last: 3}, want, api.OK)
	s, err = spill.Pop(s, 1)
	if err == api.OK {
		s, err = spill.Push(s, cycles[2])
	}
	expect(t, "example 2", s, err, api.Spill{Limit: 2, Sizes: []int{4}, Cycles: cycles[1:], First: 1, Last: 3}, api.OK)
	if c, found := spill.Front(s); !found || !sameCycle(c, cycles[1]) {
		t.Errorf("example 2, Front: got %v, %t", c, found)
	}
}

// world is a source with a queue, and a target; images are those behind all cuts.
type world struct {
	s              api.Spill
	source, target api.Image
	applied        int
	images         map[int]api.Image
}

// push writes to the source and pushes a cycle.
func (x *world) push(t *testing.T, next func(int) int) {
	t.Helper()
	var l []api.Write
	for range next(4) {
		volume := next(len(x.s.Sizes))
		count := 1 + next(min(3, x.s.Sizes[volume]))
		w := api.Write{Volume: volume, Start: next(x.s.Sizes[volume] - count + 1)}
		for range count {
			w.Data = append(w.Data, api.Sector{byte(next(256)), byte(next(256))})
		}
		l = append(l, w)
	}
	l, err := coalesce.Fold(l)
	c := api.Cycle{Base: x.s.Last, Number: x.s.Last + 1 + next(3), Time: next(100), Positions: []int{next(9)}, Writes: l}
	if err == api.OK {
		x.source, err = cycle.Apply(x.source, c)
	}
	if err == api.OK {
		x.s, err = spill.Push(x.s, c)
	}
	if err != api.OK {
		t.Fatalf("push: got %d", err)
	}
	x.images[c.Number] = x.source
}

// apply applies the front to the target, if there is one, and reports where it does not lead to the image of a cut.
func (x *world) apply(t *testing.T) bool {
	t.Helper()
	c, found := spill.Front(x.s)
	if !found {
		return false
	}
	im, err := cycle.Apply(x.target, c)
	if err == api.OK {
		x.s, err = spill.Pop(x.s, c.Number)
	}
	if err != api.OK || c.Base != x.applied {
		t.Fatalf("behind the cycle %d the front leads from %d: got %d", x.applied, c.Base, err)
	}
	x.target, x.applied = im, c.Number
	if want, known := x.images[c.Number]; !known || !image.Same(im, want) {
		t.Errorf("the target is behind the cycle %d: got %s, want %s", c.Number, brief(im), brief(want))
	}
	return true
}

// drain drains a queue that has overflowed, and reports sectors that would be transferred twice, or in vain.
func (x *world) drain(t *testing.T, time int) {
	t.Helper()
	if !x.s.Overflow {
		return
	}
	dirty := x.s.Dirty
	s, c, err := spill.Drain(x.s, x.source, time)
	if err != api.OK {
		t.Fatalf("Drain: got %d", err)
	}
	for volume, b := range dirty {
		if got := coalesce.Extents(c.Writes, volume); !slices.Equal(got, bitmap.Extents(b)) || coalesce.Check(c.Writes, s.Sizes) != api.OK {
			t.Errorf("Drain transfers %v of the volume %d, want %v", got, volume, bitmap.Extents(b))
		}
	}
	x.s = s
}

func TestP243(t *testing.T) {
	for seed := range 600 {
		next := random(uint32(seed))
		sizes := [][]int{{1}, {5}, {3, 2}, {2, 66, 4}}[next(4)]
		s, err := spill.New(sizes, 1+next(4))
		if err != api.OK {
			t.Fatalf("New: got %d", err)
		}
		x := world{s: s, source: scene(sizes), target: scene(sizes), images: map[int]api.Image{0: scene(sizes)}}
		// Some targets are faster than others.
		pace := 1 + next(5)
		for time := range 60 {
			switch {
			case next(6) < pace:
				x.push(t, next)
			case next(4) == 0:
				x.drain(t, time)
			default:
				x.apply(t)
			}
			if len(x.s.Cycles) > x.s.Limit || spill.Check(x.s) != api.OK {
				t.Fatalf("the queue is not well-formed: %s", brief(x.s))
			}
		}
		x.drain(t, 60)
		for x.apply(t) {
		}
		if !image.Same(x.target, x.source) || x.s.First != x.s.Last || x.s.Last != x.applied {
			t.Errorf("behind all cycles the target has %s, want %s", brief(x.target), brief(x.source))
		}
	}
}

// spoil changes everything that a value reaches, its spare capacity too.
func spoil(v reflect.Value) {
	switch v.Kind() {
	case reflect.Slice:
		for i := range v.Cap() {
			spoil(v.Slice(0, v.Cap()).Index(i))
		}
	case reflect.Array:
		for i := range v.Len() {
			spoil(v.Index(i))
		}
	case reflect.Struct:
		for i := range v.NumField() {
			spoil(v.Field(i))
		}
	case reflect.Int:
		v.SetInt(77)
	case reflect.Uint8, reflect.Uint64:
		v.SetUint(77)
	}
}

// everything lists the numbers that a value reaches, those in its spare capacity too.
func everything(v reflect.Value) []any {
	var l []any
	switch v.Kind() {
	case reflect.Slice:
		l = append(l, v.Len())
		for i := range v.Cap() {
			l = append(l, everything(v.Slice(0, v.Cap()).Index(i))...)
		}
	case reflect.Array:
		for i := range v.Len() {
			l = append(l, everything(v.Index(i))...)
		}
	case reflect.Struct:
		for i := range v.NumField() {
			l = append(l, everything(v.Field(i))...)
		}
	default:
		l = append(l, v.Interface())
	}
	return l
}

// spare returns a copy of a list with one more element in its spare capacity.
func spare[T any](l []T, beyond T) []T {
	return append(slices.Clone(l), beyond)[:len(l)]
}

// padded is a cycle with elements in its spare capacity.
func padded(c api.Cycle) api.Cycle {
	for i, w := range c.Writes {
		c.Writes[i].Data = spare(w.Data, api.Sector{5})
	}
	c.Positions, c.Writes = spare(c.Positions, 9), spare(c.Writes, to(1, 3, "z"))
	return c
}

// Arguments are what the functions are called with.
type Arguments struct {
	Queue, Full, Flooded api.Spill
	Cycle                api.Cycle
	Image                api.Image
	Sizes                []int
}

// values are arguments with elements in their spare capacity.
func values() Arguments {
	a := Arguments{Sizes: spare([]int{4, 70}, 3), Image: scene([]int{4, 70}), Cycle: padded(from(9, 12, to(0, 3, "m"), to(1, 64, "nop")))}
	queued := func(limit int) api.Spill {
		s := queue(limit, 4, 9, padded(from(4, 5, to(0, 1, "ab"), to(1, 3, "c"))), padded(from(5, 9, to(0, 0, "d"), to(1, 63, "ef"))))
		s.Sizes, s.Cycles = spare(s.Sizes, 5), spare(s.Cycles, padded(from(9, 10, to(0, 2, "k"))))
		return s
	}
	a.Queue, a.Full = queued(3), queued(2)
	a.Flooded = flooded(2, 4, 9, bits(4, 1), bits(70, 3, 69))
	for i, b := range a.Flooded.Dirty {
		a.Flooded.Dirty[i].Words = spare(b.Words, 8)
	}
	a.Flooded.Sizes, a.Flooded.Dirty = spare(a.Flooded.Sizes, 6), spare(a.Flooded.Dirty, bits(9, 5))
	for i, sectors := range a.Image {
		a.Image[i] = spare(sectors, api.Sector{7})
	}
	a.Image = spare(a.Image, list("n"))
	return a
}

// results are what the functions make of their arguments.
func results(t *testing.T, a Arguments) []any {
	t.Helper()
	var l []any
	add := func(s api.Spill, err api.Errno) {
		if err != api.OK {
			t.Fatalf("result %d: got %d", len(l), err)
		}
		l = append(l, &s)
	}
	add(spill.New(a.Sizes, 5))
	add(spill.Push(a.Queue, a.Cycle))
	add(spill.Push(a.Full, a.Cycle))
	add(spill.Push(a.Flooded, a.Cycle))
	add(spill.Pop(a.Queue, 4))
	add(spill.Pop(a.Queue, 5))
	add(spill.Pop(a.Queue, 9))
	s, c, err := spill.Drain(a.Flooded, a.Image, 5)
	add(s, err)
	front, found := spill.Front(a.Queue)
	if !found {
		t.Fatal("Front: got nothing")
	}
	return append(l, &c, &front)
}

// slicesOf returns all lists that a value reaches.
func slicesOf(v reflect.Value) []reflect.Value {
	var l []reflect.Value
	switch v.Kind() {
	case reflect.Slice:
		if v.Cap() > 0 {
			l = append(l, v)
		}
		for i := range v.Len() {
			l = append(l, slicesOf(v.Index(i))...)
		}
	case reflect.Struct:
		for i := range v.NumField() {
			l = append(l, slicesOf(v.Field(i))...)
		}
	}
	return l
}

// overlap reports whether two lists share memory.
func overlap(a, b reflect.Value) bool {
	size := func(v reflect.Value) uintptr { return uintptr(v.Cap()) * v.Type().Elem().Size() }
	return a.Pointer() < b.Pointer()+size(b) && b.Pointer() < a.Pointer()+size(a)
}

func TestValues(t *testing.T) {
	a := values()
	got := results(t, a)
	if !reflect.DeepEqual(everything(reflect.ValueOf(a)), everything(reflect.ValueOf(values()))) {
		t.Error("the arguments are modified")
	}
	all := slicesOf(reflect.ValueOf(a))
	for _, x := range got {
		all = append(all, slicesOf(reflect.ValueOf(x).Elem())...)
	}
	for i, v := range all {
		for _, w := range all[:i] {
			if overlap(v, w) {
				t.Errorf("two lists of the arguments and results share memory: %v, %v", v, w)
			}
		}
	}
	want := results(t, values())
	spoil(reflect.ValueOf(&a).Elem())
	if !reflect.DeepEqual(got, want) {
		t.Error("the results have changed with the arguments")
	}
	for i := range got {
		spoil(reflect.ValueOf(got[i]).Elem())
	}
	if again := results(t, values()); !reflect.DeepEqual(again, want) {
		t.Error("the results have changed with earlier ones")
	}
}
