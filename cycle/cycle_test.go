package cycle_test

import (
	"fmt"
	"math"
	"reflect"
	"slices"
	"testing"

	"standby/api"
	"standby/coalesce"
	"standby/cycle"
	"standby/image"
)

// random returns numbers from 0 to n - 1 that look random.
func random(seed uint32) func(n int) int {
	return func(n int) int {
		seed = seed*1664525 + 1013904223
		return int(seed>>8) % n
	}
}

// list are sectors with letters; a dot is a zero sector.
func list(letters string) []api.Sector {
	var l []api.Sector
	for _, c := range []byte(letters) {
		if c == '.' {
			c = 0
		}
		l = append(l, api.Sector{c, 0, 0, 0, 0, 0, 0, c})
	}
	return l
}

// to is a write of letters.
func to(volume, start int, letters string) api.Write {
	return api.Write{Volume: volume, Start: start, Data: list(letters)}
}

func zeros(volume, start, count int) api.Write {
	return api.Write{Volume: volume, Start: start, Data: make([]api.Sector, count)}
}

// picture is the image whose volumes have letters.
func picture(volumes ...string) api.Image {
	var im api.Image
	for _, letters := range volumes {
		im = append(im, list(letters))
	}
	return im
}

// blank is the image of zeros.
func blank(sizes []int) api.Image {
	var im api.Image
	for _, size := range sizes {
		im = append(im, make([]api.Sector, size))
	}
	return im
}

// largest are the sizes that are meant where none are given.
func largest() []int {
	return []int{4096, 4096, 4096, 4096, 4096, 4096, 4096, 4096}
}

func sameWrite(a, b api.Write) bool {
	return a.Volume == b.Volume && a.Start == b.Start && slices.Equal(a.Data, b.Data)
}

func sameWrites(a, b []api.Write) bool {
	return slices.EqualFunc(a, b, sameWrite)
}

func sameCycle(a, b api.Cycle) bool {
	return a.Base == b.Base && a.Number == b.Number && a.Time == b.Time && slices.Equal(a.Positions, b.Positions) && sameWrites(a.Writes, b.Writes)
}

func sameCapture(a, b api.Capture) bool {
	return a.Number == b.Number && slices.Equal(a.Sizes, b.Sizes) && slices.Equal(a.Positions, b.Positions) && slices.Equal(a.Nodes, b.Nodes) && sameWrites(a.Writes, b.Writes)
}

// brief is the beginning of the text of a value.
func brief(value any) string {
	text := fmt.Sprint(value)
	return text[:min(len(text), 500)]
}

// expect reports a capture, a cycle or an error that are not the wanted ones; beside an error the others have to be empty.
func expect(t *testing.T, what string, got api.Capture, cycle api.Cycle, err api.Errno, want api.Capture, wanted api.Cycle, code api.Errno) {
	t.Helper()
	if err != code || !sameCapture(got, want) || !sameCycle(cycle, wanted) {
		t.Errorf("%s: got %s, %s, %d, want %s, %s, %d", what, brief(got), brief(cycle), err, brief(want), brief(wanted), code)
	}
}

func expectCapture(t *testing.T, what string, got api.Capture, err api.Errno, want api.Capture, code api.Errno) {
	t.Helper()
	expect(t, what, got, api.Cycle{}, err, want, api.Cycle{}, code)
}

func expectCycle(t *testing.T, what string, got api.Cycle, err api.Errno, want api.Cycle, code api.Errno) {
	t.Helper()
	expect(t, what, api.Capture{}, got, err, api.Capture{}, want, code)
}

// canonical is the canonical list with the effect of writes, by the definition.
func canonical(l []api.Write, sizes []int) []api.Write {
	var made []api.Write
	for volume, size := range sizes {
		content := make([]*api.Sector, size)
		for _, w := range l {
			for i := range w.Data {
				if w.Volume == volume {
					content[w.Start+i] = &w.Data[i]
				}
			}
		}
		// A write is open as long as sector follows sector.
		open := false
		for sector, c := range content {
			if c != nil && !open {
				made = append(made, api.Write{Volume: volume, Start: sector})
			}
			open = c != nil
			if open {
				made[len(made)-1].Data = append(made[len(made)-1].Data, *c)
			}
		}
	}
	return made
}

// after is an image behind writes, by the definition.
func after(im api.Image, l []api.Write) api.Image {
	var made api.Image
	for _, sectors := range im {
		made = append(made, slices.Clone(sectors))
	}
	for _, w := range l {
		for i, s := range w.Data {
			made[w.Volume][w.Start+i] = s
		}
	}
	return made
}

// fault is something that is wrong with a subject, and the error for it.
type fault[T any] struct {
	name  string
	err   api.Errno
	spoil func(x *T)
}

// broken calls check for subjects with one fault, and with two faults of different steps, the first of which decides.
func broken[T any](fresh func() T, steps [][]fault[T], check func(name string, x T, err api.Errno)) {
	for i, step := range steps {
		for _, f := range step {
			x := fresh()
			f.spoil(&x)
			check(f.name, x, f.err)
			for _, later := range slices.Concat(steps[i+1:]...) {
				// The later fault first, since the earlier one may remove what it changes.
				y := fresh()
				later.spoil(&y)
				f.spoil(&y)
				check(f.name+", "+later.name, y, f.err)
			}
		}
	}
}

// wrongSizes are sizes that are not correct, with their errors.
func wrongSizes() map[api.Errno][][]int {
	return map[api.Errno][][]int{
		api.ErrMany:  {nil, {}, slices.Repeat([]int{1}, 9), slices.Repeat([]int{0}, 9)},
		api.ErrRange: {{0}, {4, 0}, {4097, 4}, {4, -1}, {math.MaxInt}, {math.MinInt, 4}},
	}
}

func wrongTimes() []int {
	return []int{-1, api.MaxTime + 1, math.MaxInt, math.MinInt}
}

// wrongWrites are writes that do not fit the sizes 4 and 6, with their errors.
func wrongWrites() map[api.Errno][]api.Write {
	return map[api.Errno][]api.Write{
		api.ErrNone:  {to(2, 0, "a"), to(-1, 0, "a"), to(math.MaxInt, 0, ""), to(math.MinInt, -1, "a")},
		api.ErrArg:   {to(0, 0, ""), to(1, 1, ""), to(0, -1, ""), to(1, math.MaxInt, "")},
		api.ErrRange: {to(0, 4, "a"), to(0, -1, "a"), to(1, 6, "a"), to(1, 7, "x"), to(0, 0, "abcde"), to(0, 3, "ab"), to(1, math.MaxInt, "a"), to(1, math.MinInt, "a"), zeros(0, 0, 5000)},
	}
}

// misplaced are writes that fit no sizes, with their errors.
func misplaced() map[api.Errno][]api.Write {
	return map[api.Errno][]api.Write{
		api.ErrNone:  {to(8, 0, "a"), to(-1, 0, "a"), to(math.MaxInt, 0, ""), to(math.MinInt, -1, "a")},
		api.ErrArg:   {to(0, 0, ""), to(1, 1, ""), to(0, -1, ""), to(1, math.MaxInt, "")},
		api.ErrRange: {to(0, 4096, "a"), to(0, -1, "a"), to(1, 4095, "ab"), to(1, math.MaxInt, "a"), to(1, math.MinInt, "a"), zeros(0, 0, 5000)},
	}
}

// sized is a cycle with sizes.
type sized struct {
	c     api.Cycle
	sizes []int
}

// ordinary is a cycle that is in order for the sizes 4 and 6.
func ordinary() sized {
	c := api.Cycle{Base: 4, Number: 6, Time: 90, Positions: []int{3, 0, 5}, Writes: []api.Write{to(0, 1, "ab"), to(1, 0, "c"), to(1, 2, "d.ef")}}
	return sized{c, []int{4, 6}}
}

// inOrder are cycles with sizes for which they are in order.
func inOrder() []sized {
	last := []api.Write{to(7, 4095, "a")}
	l := []sized{
		ordinary(),
		{api.Cycle{Number: 1}, []int{1}},
		{api.Cycle{Number: api.MaxTime, Time: api.MaxTime}, []int{4096}},
		{api.Cycle{Base: api.MaxTime - 1, Number: api.MaxTime, Positions: []int{0}}, largest()},
		{api.Cycle{Base: 5, Number: 6, Positions: slices.Repeat([]int{api.MaxTime}, 8), Writes: last}, largest()},
		{api.Cycle{Number: 3, Time: 1, Positions: make([]int, 8), Writes: []api.Write{zeros(0, 0, 4096), zeros(1, 0, 4096)}}, []int{4096, 4096}},
		{api.Cycle{Number: 9, Positions: []int{1, 2}, Writes: []api.Write{to(0, 0, "."), to(0, 2, "x"), to(2, 0, "y")}}, []int{3, 1, 1}},
	}
	for bits := range 64 {
		var single []api.Write
		for i := range 6 {
			if bits>>i&1 == 1 {
				single = append(single, api.Write{Volume: i / 3, Start: i % 3, Data: []api.Sector{{byte(bits), byte(i)}}})
			}
		}
		l = append(l, sized{api.Cycle{Base: bits, Number: 64, Time: bits, Positions: []int{bits}, Writes: canonical(single, []int{3, 3})}, []int{3, 3}})
	}
	return l
}

// cycleFaults are what is wrong with an ordinary cycle beside its sizes, in the order in which Check finds it.
func cycleFaults() [][]fault[sized] {
	var times, writes []fault[sized]
	for _, time := range wrongTimes() {
		times = append(times, fault[sized]{fmt.Sprint("Time ", time), api.ErrTime, func(x *sized) { x.c.Time = time }})
	}
	for code, all := range misplaced() {
		for _, w := range all {
			for i := range 3 {
				writes = append(writes, fault[sized]{fmt.Sprint("write ", i, " is ", code), code, func(x *sized) { x.c.Writes[i] = w }})
			}
		}
	}
	form := func(name string, spoil func(x *sized)) {
		writes = append(writes, fault[sized]{name, api.ErrForm, spoil})
	}
	form("writes that touch", func(x *sized) { x.c.Writes[1] = to(0, 3, "c") })
	form("writes that overlap", func(x *sized) { x.c.Writes[2] = to(1, 0, "c") })
	form("writes in descending order", func(x *sized) { x.c.Writes[0] = to(1, 2, "c") })
	number := func(name string, base, number int) fault[sized] {
		return fault[sized]{name, api.ErrRange, func(x *sized) { x.c.Base, x.c.Number = base, number }}
	}
	position := func(node, position int) fault[sized] {
		return fault[sized]{fmt.Sprint("position ", node, " is ", position), api.ErrRange, func(x *sized) { x.c.Positions[node] = position }}
	}
	return [][]fault[sized]{
		{
			number("Base -1", -1, 5), number("Base -1, Number 0", -1, 0), number("the least Base", math.MinInt, 5), number("Number as Base", 5, 5), number("Number before Base", 5, 4), number("no Number", 0, 0),
			number("a negative Number", 4, -1), number("Number behind all", 4, api.MaxTime+1), number("the greatest Number", 4, math.MaxInt), number("the least Number", 4, math.MinInt), number("both behind all", api.MaxTime, api.MaxTime+1),
		},
		times,
		{
			{"nine Positions", api.ErrMany, func(x *sized) { x.c.Positions = append(x.c.Positions, make([]int, 6)...) }},
			{"many Positions", api.ErrMany, func(x *sized) { x.c.Positions = append(x.c.Positions, make([]int, 5000)...) }},
		},
		{position(0, -1), position(2, -1), position(1, math.MinInt), position(0, api.MaxTime+1), position(2, api.MaxTime+1), position(1, math.MaxInt)},
		writes,
	}
}

// brokenCycles calls check for cycles that are in order for no sizes.
func brokenCycles(check func(name string, c api.Cycle, err api.Errno)) {
	broken(ordinary, cycleFaults(), func(name string, x sized, err api.Errno) { check(name, x.c, err) })
}

func TestP231Check(t *testing.T) {
	for i, x := range inOrder() {
		if got := cycle.Check(x.c, x.sizes); got != api.OK {
			t.Errorf("Check of the cycle %d: got %d", i, got)
		}
		if got := cycle.Check(x.c, largest()); got != api.OK {
			t.Errorf("Check of the cycle %d with the largest sizes: got %d", i, got)
		}
	}
	var sizes []fault[sized]
	for code, all := range wrongSizes() {
		for _, l := range all {
			sizes = append(sizes, fault[sized]{fmt.Sprint("the sizes ", l), code, func(x *sized) { x.sizes = l }})
		}
	}
	steps := append([][]fault[sized]{sizes}, cycleFaults()...)
	broken(ordinary, steps, func(name string, x sized, err api.Errno) {
		if got := cycle.Check(x.c, x.sizes); got != err {
			t.Errorf("Check with %s: got %d, want %d", name, got, err)
		}
	})
	// Writes that fit other sizes only.
	for code, all := range wrongWrites() {
		for _, w := range all {
			x := ordinary()
			x.c.Writes[0] = w
			if got := cycle.Check(x.c, x.sizes); got != code {
				t.Errorf("Check with the write %s: got %d, want %d", brief(w), got, code)
			}
		}
	}
	for _, sizes := range [][]int{{2, 6}, {4, 5}} {
		if got := cycle.Check(ordinary().c, sizes); got != api.ErrRange {
			t.Errorf("Check with the sizes %v: got %d", sizes, got)
		}
	}
	if got := cycle.Check(ordinary().c, []int{4}); got != api.ErrNone {
		t.Errorf("Check with one volume: got %d", got)
	}
}

func TestP231Open(t *testing.T) {
	numbers := []int{0, 1, 77, api.MaxTime - 1, api.MaxTime, api.MaxTime + 1, -1, math.MaxInt, math.MinInt}
	counts := []int{1, 2, 3, 7, 8, 9, 0, -1, math.MaxInt, math.MinInt}
	for _, number := range numbers {
		for _, nodes := range counts {
			for _, sizes := range [][]int{{1}, {4, 6}, {4096, 1, 4096}, largest()} {
				want, code := api.Capture{Number: number, Sizes: sizes}, api.OK
				if nodes < 1 || nodes > 8 {
					want, code = api.Capture{}, api.ErrMany
				} else if number < 0 || number >= 1073741824 {
					want, code = api.Capture{}, api.ErrRange
				} else {
					want.Positions = make([]int, nodes)
				}
				got, err := cycle.Open(sizes, nodes, number)
				expectCapture(t, fmt.Sprint("Open with ", nodes, " nodes at ", number), got, err, want, code)
			}
			for code, all := range wrongSizes() {
				for _, sizes := range all {
					got, err := cycle.Open(sizes, nodes, number)
					expectCapture(t, fmt.Sprint("Open with the sizes ", sizes), got, err, api.Capture{}, code)
				}
			}
		}
	}
}

// collected is a capture with writes of three nodes that overlap each other.
func collected() api.Capture {
	return api.Capture{
		Number: 12, Sizes: []int{4, 6}, Positions: []int{7, 0, 3}, Nodes: []int{0, 2, 0, 1, 2, 0},
		Writes: []api.Write{to(0, 1, "ab"), to(0, 2, "c"), to(1, 0, "defg"), to(0, 0, "hijk"), to(1, 2, "l"), to(1, 1, "m.n")},
	}
}

// captures are captures that are in order.
func captures() []api.Capture {
	one := api.Capture{Sizes: []int{1}, Positions: []int{0}}
	last := api.Capture{Number: api.MaxTime - 1, Sizes: largest(), Positions: slices.Repeat([]int{api.MaxTime}, 8), Nodes: []int{7, 0}, Writes: []api.Write{to(7, 4095, "a"), to(0, 0, "b")}}
	return []api.Capture{collected(), one, last, {Number: 5, Sizes: []int{4, 6}, Positions: []int{1, 2}}, full(api.MaxWrites - 1), full(api.MaxWrites)}
}

// full is a capture with writes of two nodes.
func full(writes int) api.Capture {
	c := api.Capture{Number: 3, Sizes: []int{4, 6}, Positions: []int{5, 6}}
	for i := range writes {
		c.Nodes = append(c.Nodes, i%2)
		c.Writes = append(c.Writes, api.Write{Volume: i % 2, Start: i % 4, Data: []api.Sector{{byte(i), byte(i >> 8), 1}}})
	}
	return c
}

// captureFaults are what is wrong with a capture with at least six writes, in the order in which it is found.
func captureFaults() [][]fault[api.Capture] {
	type spoil = func(c *api.Capture)
	var sizes, positions, first, second []fault[api.Capture]
	for code, all := range wrongSizes() {
		for _, l := range all {
			sizes = append(sizes, fault[api.Capture]{fmt.Sprint("the sizes ", l), code, func(c *api.Capture) { c.Sizes = l }})
		}
	}
	for _, position := range wrongTimes() {
		for _, node := range []int{0, 2} {
			positions = append(positions, fault[api.Capture]{fmt.Sprint("position ", node, " is ", position), api.ErrRange, func(c *api.Capture) { c.Positions[node] = position }})
		}
	}
	for _, node := range []int{-1, 3, math.MaxInt, math.MinInt} {
		first = append(first, fault[api.Capture]{fmt.Sprint("the node ", node), api.ErrNone, func(c *api.Capture) { c.Nodes[1], c.Writes[1] = node, to(0, 0, "") }})
		second = append(second, fault[api.Capture]{fmt.Sprint("then the node ", node), api.ErrNone, func(c *api.Capture) { c.Nodes[5] = node }})
	}
	for code, all := range wrongWrites() {
		for _, w := range all {
			first = append(first, fault[api.Capture]{fmt.Sprint("a write that is ", code), code, func(c *api.Capture) { c.Writes[0] = w }})
			second = append(second, fault[api.Capture]{fmt.Sprint("then a write that is ", code), code, func(c *api.Capture) { c.Writes[5] = w }})
		}
	}
	many := func(name string, s spoil) fault[api.Capture] { return fault[api.Capture]{name, api.ErrMany, s} }
	number := func(n int) fault[api.Capture] {
		return fault[api.Capture]{fmt.Sprint("the number ", n), api.ErrRange, func(c *api.Capture) { c.Number = n }}
	}
	return [][]fault[api.Capture]{
		sizes,
		{number(-1), number(api.MaxTime), number(math.MaxInt), number(math.MinInt)},
		{
			many("no Positions", func(c *api.Capture) { c.Positions = nil }),
			many("nine Positions", func(c *api.Capture) { c.Positions = append(c.Positions, 0, 1, 2, 3, 4, 5) }),
		},
		positions,
		{
			many("a node too few", func(c *api.Capture) { c.Nodes = c.Nodes[:len(c.Nodes)-1] }),
			many("a node too many", func(c *api.Capture) { c.Nodes = append(c.Nodes, 0) }),
			many("no nodes", func(c *api.Capture) { c.Nodes = nil }),
			many("no writes", func(c *api.Capture) { c.Writes = nil }),
			many("too many writes", func(c *api.Capture) {
				more := full(api.MaxWrites + 1 - len(c.Writes))
				c.Nodes, c.Writes = append(c.Nodes, more.Nodes...), append(c.Writes, more.Writes...)
			}),
		},
		first, second,
	}
}

func TestP231Add(t *testing.T) {
	writes := []api.Write{to(0, 0, "x"), to(0, 3, "."), to(0, 0, "xyz.")}
	for i, c := range captures() {
		for node := range c.Positions {
			for _, w := range append(writes, to(1, 0, "abcdef"), to(7, 4095, "z"), to(0, 4092, "abcd")) {
				want, code := c, api.OK
				want.Nodes, want.Writes = append(slices.Clone(c.Nodes), node), append(slices.Clone(c.Writes), w)
				if w.Volume >= len(c.Sizes) {
					want, code = api.Capture{}, api.ErrNone
				} else if w.Start+len(w.Data) > c.Sizes[w.Volume] {
					want, code = api.Capture{}, api.ErrRange
				} else if len(c.Writes) == 4096 {
					want, code = api.Capture{}, api.ErrFull
				}
				got, err := cycle.Add(c, node, w)
				expectCapture(t, fmt.Sprint("Add to the capture ", i), got, err, want, code)
			}
		}
	}
}

func TestP231AddErrors(t *testing.T) {
	broken(collected, captureFaults(), func(name string, c api.Capture, err api.Errno) {
		for _, node := range []int{0, 3} {
			got, code := cycle.Add(c, node, to(0, 0, "a"))
			expectCapture(t, "Add with "+name, got, code, api.Capture{}, err)
		}
	})
	for _, node := range []int{-1, 3, 8, math.MaxInt, math.MinInt} {
		for _, w := range []api.Write{to(0, 0, "a"), to(0, 0, ""), to(5, 0, "a")} {
			got, err := cycle.Add(collected(), node, w)
			expectCapture(t, fmt.Sprint("Add for the node ", node), got, err, api.Capture{}, api.ErrNone)
		}
	}
	got, err := cycle.Add(full(api.MaxWrites), 2, to(0, 0, "a"))
	expectCapture(t, "Add for no node of a full capture", got, err, api.Capture{}, api.ErrNone)
	for code, all := range wrongWrites() {
		for _, w := range all {
			for _, c := range []api.Capture{collected(), full(0), full(api.MaxWrites)} {
				got, err := cycle.Add(c, 1, w)
				expectCapture(t, "Add of "+brief(w), got, err, api.Capture{}, code)
			}
		}
	}
}

// parted is what Close makes of a capture, by the definition.
func parted(c api.Capture, time int, positions []int) (api.Capture, api.Cycle) {
	inside := make([]bool, len(c.Writes))
	var taken []api.Write
	for i, node := range c.Nodes {
		rank := 0
		for _, earlier := range c.Nodes[:i] {
			if earlier == node {
				rank++
			}
		}
		inside[i] = rank < positions[node]-c.Positions[node]
		if inside[i] {
			taken = append(taken, c.Writes[i])
		}
	}
	behind := api.Capture{Number: c.Number + 1, Sizes: c.Sizes, Positions: positions}
	for i, w := range c.Writes {
		if inside[i] {
			continue
		}
		w.Data = slices.Clone(w.Data)
		for k := range w.Data {
			for later := i + 1; later < len(c.Writes); later++ {
				x := c.Writes[later]
				at := w.Start + k - x.Start
				if inside[later] && x.Volume == w.Volume && at >= 0 && at < len(x.Data) {
					w.Data[k] = x.Data[at]
				}
			}
		}
		behind.Nodes, behind.Writes = append(behind.Nodes, c.Nodes[i]), append(behind.Writes, w)
	}
	return behind, api.Cycle{Base: c.Number, Number: c.Number + 1, Time: time, Positions: positions, Writes: canonical(taken, c.Sizes)}
}

// reachable are all positions at which a capture can be closed.
func reachable(c api.Capture) [][]int {
	all := [][]int{nil}
	for node, position := range c.Positions {
		var longer [][]int
		writes := 0
		for _, n := range c.Nodes {
			if n == node {
				writes++
			}
		}
		for _, l := range all {
			for more := range writes + 1 {
				longer = append(longer, append(slices.Clip(l), position+more))
			}
		}
		all = longer
	}
	return all
}

// small are all captures with at most n writes of two nodes to a volume of some sectors; all contents are different.
func small(n, size int) []api.Capture {
	all := []api.Capture{{Number: 5, Sizes: []int{size}, Positions: []int{2, 9}}}
	for last := all; n > 0; n-- {
		var next []api.Capture
		for _, c := range last {
			for node := range 2 {
				for start := range size {
					for count := 1; start+count <= size; count++ {
						w := zeros(0, start, count)
						for i := range w.Data {
							w.Data[i] = api.Sector{byte(len(c.Writes) + 1), byte(i)}
						}
						x := c
						x.Nodes, x.Writes = append(slices.Clip(c.Nodes), node), append(slices.Clip(c.Writes), w)
						next = append(next, x)
					}
				}
			}
		}
		all, last = append(all, next...), next
	}
	return all
}

// randomCapture is a capture with up to some writes, many of which overlap.
func randomCapture(next func(int) int, most int) api.Capture {
	c := api.Capture{Number: next(100)}
	for range 1 + next(8) {
		c.Sizes = append(c.Sizes, []int{1, 3, 9, 4096}[next(4)])
	}
	for range 1 + next(8) {
		c.Positions = append(c.Positions, []int{0, 4, 1 << 20}[next(3)])
	}
	for n := range next(most + 1) {
		volume := next(len(c.Sizes))
		size := c.Sizes[volume]
		count := 1 + next(min(size, 5))
		w := zeros(volume, []int{next(size - count + 1), size - count, 0}[next(3)], count)
		for i := range w.Data {
			w.Data[i] = api.Sector{byte(next(3)), byte(n), byte(i)}
		}
		c.Nodes, c.Writes = append(c.Nodes, next(len(c.Positions))), append(c.Writes, w)
	}
	return c
}

// randomPositions are positions at which a capture can be closed.
func randomPositions(next func(int) int, c api.Capture) []int {
	l := slices.Clone(c.Positions)
	for _, node := range c.Nodes {
		l[node] += next(2)
	}
	return l
}

func expectClose(t *testing.T, c api.Capture, time int, positions []int) (api.Capture, api.Cycle) {
	t.Helper()
	want, wanted := parted(c, time, positions)
	got, closed, err := cycle.Close(c, time, positions)
	expect(t, fmt.Sprint("Close at ", positions, " of ", brief(c)), got, closed, err, want, wanted, api.OK)
	if err := cycle.Check(closed, c.Sizes); err != api.OK {
		t.Errorf("Check of a cycle of Close: got %d", err)
	}
	return got, closed
}

func TestP231Close(t *testing.T) {
	for _, c := range append(small(3, 3), small(5, 2)...) {
		for _, positions := range reachable(c) {
			expectClose(t, c, 8, positions)
		}
	}
	for _, positions := range reachable(collected()) {
		for _, time := range []int{0, 1, api.MaxTime} {
			expectClose(t, collected(), time, positions)
		}
	}
	for seed := range 300 {
		next := random(uint32(seed))
		c := randomCapture(next, 40)
		expectClose(t, c, next(1000), randomPositions(next, c))
	}
	whole := api.Capture{Number: api.MaxTime - 1, Sizes: largest(), Positions: make([]int, 8)}
	for volume := range 8 {
		whole.Nodes, whole.Writes = append(whole.Nodes, volume, 7-volume), append(whole.Writes, zeros(volume, 0, 4096), to(volume, 4095, "a"))
	}
	expectClose(t, whole, 5, []int{1, 2, 0, 1, 0, 2, 1, 1})
	expectClose(t, whole, 5, []int{2, 2, 2, 2, 2, 2, 2, 2})
	most := full(api.MaxWrites)
	expectClose(t, most, 5, []int{5 + 2048, 6 + 2048})
	expectClose(t, most, 5, []int{5, 6 + 1000})
}

// Close bounds new positions by the writes that there are, and by nothing else.
func TestP231CloseBeyondMaxTime(t *testing.T) {
	c := api.Capture{Sizes: []int{2}, Positions: []int{api.MaxTime, 0}, Nodes: []int{0}, Writes: []api.Write{to(0, 0, "a")}}
	want := api.Capture{Number: 1, Sizes: []int{2}, Positions: []int{api.MaxTime + 1, 0}}
	wanted := api.Cycle{Number: 1, Positions: want.Positions, Writes: []api.Write{to(0, 0, "a")}}
	got, closed, err := cycle.Close(c, 0, want.Positions)
	expect(t, "Close behind MaxTime", got, closed, err, want, wanted, api.OK)
	got, closed, err = cycle.Close(c, 0, []int{api.MaxTime + 2, 0})
	expect(t, "Close farther behind MaxTime", got, closed, err, api.Capture{}, api.Cycle{}, api.ErrRange)
}

// closing is what Close is called with.
type closing struct {
	c         api.Capture
	time      int
	positions []int
}

func TestP231CloseErrors(t *testing.T) {
	broken(collected, captureFaults(), func(name string, c api.Capture, err api.Errno) {
		for _, x := range []closing{{c, 5, []int{8, 0, 4}}, {c, -1, nil}, {c, 5, []int{6, 0, 99}}} {
			got, closed, code := cycle.Close(x.c, x.time, x.positions)
			expect(t, "Close with "+name, got, closed, code, api.Capture{}, api.Cycle{}, err)
		}
	})
	steps := make([][]fault[closing], 3)
	for _, time := range wrongTimes() {
		steps[0] = append(steps[0], fault[closing]{fmt.Sprint("the time ", time), api.ErrTime, func(x *closing) { x.time = time }})
	}
	for _, l := range [][]int{nil, {8}, {8, 0}, {6, 0}, {8, 0, 4, 0}, {8, 0, 99, 0}} {
		steps[1] = append(steps[1], fault[closing]{fmt.Sprint("the number of ", l), api.ErrMany, func(x *closing) { x.positions = l }})
	}
	for node, least := range []int{7, 0, 3} {
		for _, position := range []int{least - 1, least + []int{4, 2, 3}[node], -1, math.MaxInt, math.MinInt} {
			steps[2] = append(steps[2], fault[closing]{fmt.Sprint("position ", position, " of ", node), api.ErrRange, func(x *closing) { x.positions[node] = position }})
		}
	}
	fresh := func() closing { return closing{collected(), 5, []int{8, 0, 4}} }
	broken(fresh, steps, func(name string, x closing, err api.Errno) {
		got, closed, code := cycle.Close(x.c, x.time, x.positions)
		expect(t, "Close with "+name, got, closed, code, api.Capture{}, api.Cycle{}, err)
	})
	fresh = func() closing { return closing{api.Capture{Sizes: []int{1}, Positions: []int{0}}, 0, []int{1}} }
	x := fresh()
	got, closed, err := cycle.Close(x.c, x.time, x.positions)
	expect(t, "Close without writes", got, closed, err, api.Capture{}, api.Cycle{}, api.ErrRange)
}

func TestP231Example1(t *testing.T) {
	c, err := cycle.Open([]int{4}, 2, 0)
	for i, w := range []api.Write{to(0, 1, "a"), to(0, 1, "b"), to(0, 2, "c")} {
		if err == api.OK {
			c, err = cycle.Add(c, i%2, w)
		}
	}
	if err != api.OK {
		t.Fatalf("got %d", err)
	}
	c, first, err := cycle.Close(c, 3, []int{0, 1})
	behind := api.Capture{Number: 1, Sizes: []int{4}, Positions: []int{0, 1}, Nodes: []int{0, 0}, Writes: []api.Write{to(0, 1, "b"), to(0, 2, "c")}}
	expect(t, "Close at 0, 1", c, first, err, behind, api.Cycle{Number: 1, Time: 3, Positions: []int{0, 1}, Writes: []api.Write{to(0, 1, "b")}}, api.OK)
	c, second, err := cycle.Close(c, 4, []int{2, 1})
	want := api.Cycle{Base: 1, Number: 2, Time: 4, Positions: []int{2, 1}, Writes: []api.Write{to(0, 1, "bc")}}
	expect(t, "Close at 2, 1", c, second, err, api.Capture{Number: 2, Sizes: []int{4}, Positions: []int{2, 1}}, want, api.OK)
	composed, err := cycle.Compose(first, second)
	expectCycle(t, "example 2", composed, err, api.Cycle{Number: 2, Time: 4, Positions: []int{2, 1}, Writes: []api.Write{to(0, 1, "bc")}}, api.OK)
}

// number is the encoding of a number.
func number(n int) []byte {
	var b []byte
	for ; n > 127; n /= 128 {
		b = append(b, byte(128+n%128))
	}
	return append(b, byte(n))
}

// text is the encoding of a cycle, by the definition.
func text(c api.Cycle) []byte {
	b := slices.Concat(number(c.Base), number(c.Number), number(c.Time), number(len(c.Positions)))
	for _, position := range c.Positions {
		b = append(b, number(position)...)
	}
	b = append(b, number(len(c.Writes))...)
	for _, w := range c.Writes {
		b = slices.Concat(b, number(w.Volume), number(w.Start), number(len(w.Data)))
		for _, s := range w.Data {
			b = append(b, s[:]...)
		}
	}
	return b
}

// long is a cycle whose encoding has some bytes, from 65529 to 65544.
func long(t *testing.T, bytes int) api.Cycle {
	t.Helper()
	c := api.Cycle{Number: 1, Writes: []api.Write{zeros(0, 0, 4000), zeros(1, 0, 4000), zeros(2, 0, 189)}}
	for missing := bytes - len(text(c)); missing > 0; missing -= 2 {
		// A position of two bytes, or a last one of one.
		c.Positions = append(c.Positions, min(missing-1, 1)*128)
	}
	if len(text(c)) != bytes {
		t.Fatalf("there is no cycle of %d bytes, but of %d", bytes, len(text(c)))
	}
	return c
}

func expectBytes(t *testing.T, what string, got []byte, err api.Errno, want []byte, code api.Errno) {
	t.Helper()
	if err != code || !slices.Equal(got, want) {
		t.Errorf("%s: got %s, %d, want %s, %d", what, brief(got), err, brief(want), code)
	}
}

func TestP232Encode(t *testing.T) {
	for i, x := range inOrder() {
		want, code := text(x.c), api.OK
		if len(want) > 65536 {
			want, code = nil, api.ErrLong
		}
		got, err := cycle.Encode(x.c)
		expectBytes(t, fmt.Sprint("Encode of the cycle ", i), got, err, want, code)
	}
	got, err := cycle.Encode(api.Cycle{Base: 1, Number: 300, Time: 128, Positions: []int{0, 200}, Writes: []api.Write{to(2, 3, "ab")}})
	want := []byte{1, 172, 2, 128, 1, 2, 0, 200, 1, 1, 2, 3, 2, 'a', 0, 0, 0, 0, 0, 0, 'a', 'b', 0, 0, 0, 0, 0, 0, 'b'}
	expectBytes(t, "Encode", got, err, want, api.OK)
	for bytes := 65530; bytes <= 65536; bytes++ {
		c := long(t, bytes)
		got, err := cycle.Encode(c)
		expectBytes(t, fmt.Sprint("Encode to ", bytes, " bytes"), got, err, text(c), api.OK)
	}
	for _, c := range []api.Cycle{long(t, 65537), long(t, 65538), {Number: 1, Writes: []api.Write{zeros(0, 0, 4096), zeros(1, 0, 4096)}}} {
		got, err := cycle.Encode(c)
		expectBytes(t, "Encode to too many bytes", got, err, nil, api.ErrLong)
	}
}

func TestP232EncodeErrors(t *testing.T) {
	brokenCycles(func(name string, c api.Cycle, err api.Errno) {
		got, code := cycle.Encode(c)
		expectBytes(t, "Encode with "+name, got, code, nil, err)
	})
	c := long(t, 65537)
	c.Time = -1
	got, err := cycle.Encode(c)
	expectBytes(t, "Encode of a long cycle that is not in order", got, err, nil, api.ErrTime)
}

func TestP232Decode(t *testing.T) {
	for i, x := range inOrder() {
		if len(text(x.c)) <= 65536 {
			got, err := cycle.Decode(text(x.c))
			expectCycle(t, fmt.Sprint("Decode of the cycle ", i), got, err, x.c, api.OK)
		}
	}
	c := long(t, 65536)
	got, err := cycle.Decode(text(c))
	expectCycle(t, "Decode of the most bytes", got, err, c, api.OK)
	b := text(ordinary().c)
	for n := range b {
		got, err := cycle.Decode(b[:n])
		expectCycle(t, fmt.Sprint("Decode of the first bytes, ", n), got, err, api.Cycle{}, api.ErrTorn)
	}
	for _, more := range [][]byte{{0}, {128}, {255, 255}, text(ordinary().c)} {
		got, err := cycle.Decode(slices.Concat(b, more))
		expectCycle(t, "Decode with bytes behind", got, err, api.Cycle{}, api.ErrForm)
	}
}

func TestP232DecodeErrors(t *testing.T) {
	for _, b := range [][]byte{text(long(t, 65537)), append(text(long(t, 65536)), 0), make([]byte, 65537), slices.Repeat([]byte{255}, 70000)} {
		got, err := cycle.Decode(b)
		expectCycle(t, "Decode of too many bytes", got, err, api.Cycle{}, api.ErrLong)
	}
	for _, x := range []struct {
		what string
		b    []byte
		want api.Errno
	}{
		{"a wrong Base", []byte{128, 0, 9, 9, 0, 0}, api.ErrForm},
		{"a wrong Number", []byte{0, 129, 0, 9, 0, 0}, api.ErrForm},
		{"a wrong Time", []byte{0, 1, 129, 128, 0, 0, 0}, api.ErrForm},
		{"too many groups", slices.Concat([]byte{0, 1}, slices.Repeat([]byte{255}, 8), []byte{1, 0, 0}), api.ErrForm},
		{"a wrong position", []byte{0, 1, 0, 2, 1, 128, 0, 0}, api.ErrForm},
		{"too many positions for any list", slices.Concat([]byte{0, 1, 0}, number(65537), []byte{0, 0}), api.ErrLong},
		{"too many writes for any list", slices.Concat([]byte{0, 1, 0, 0}, number(65537)), api.ErrLong},
		{"too many sectors for any list", slices.Concat([]byte{0, 1, 0, 0, 1, 0, 0}, number(65537)), api.ErrLong},
		{"as many positions as bytes", slices.Concat([]byte{0, 1, 0}, number(65536)), api.ErrTorn},
		{"a sector that ends early", []byte{0, 1, 0, 0, 1, 0, 0, 1, 7, 7, 7}, api.ErrTorn},
		{"a wrong Number, read before the end of the bytes", []byte{0, 0, 0, 0}, api.ErrTorn},
		{"a wrong Number and bytes behind", []byte{0, 0, 0, 0, 0, 5}, api.ErrForm},
		{"a wrong Number", []byte{0, 0, 0, 0, 0}, api.ErrRange},
		{"a wrong Time and a wrong position", slices.Concat([]byte{0, 1}, number(api.MaxTime+1), []byte{1}, number(api.MaxTime+1), []byte{0}), api.ErrTime},
		{"nine positions", []byte{0, 1, 0, 9, 0, 0, 0, 0, 0, 0, 0, 0, 0, 0}, api.ErrMany},
		{"an empty write", []byte{0, 1, 0, 0, 1, 0, 0, 0}, api.ErrArg},
		{"a write to no volume", []byte{0, 1, 0, 0, 1, 8, 0, 0}, api.ErrNone},
		{"nothing", nil, api.ErrTorn},
	} {
		got, err := cycle.Decode(x.b)
		expectCycle(t, "Decode of "+x.what, got, err, api.Cycle{}, x.want)
	}
	// Negative numbers have no encoding.
	brokenCycles(func(name string, c api.Cycle, err api.Errno) {
		encoded := append([]int{c.Base, c.Number, c.Time}, c.Positions...)
		for _, w := range c.Writes {
			encoded = append(encoded, w.Volume, w.Start)
		}
		if slices.Min(encoded) >= 0 && slices.Max(encoded) < 1<<53 && len(text(c)) <= 65536 {
			got, code := cycle.Decode(text(c))
			expectCycle(t, "Decode with "+name, got, code, api.Cycle{}, err)
		}
	})
}

func TestP232Apply(t *testing.T) {
	for i, x := range inOrder() {
		for _, seed := range []int{1, 2} {
			im, next := blank(x.sizes), random(uint32(seed))
			for _, sectors := range im {
				for k := range sectors {
					sectors[k] = api.Sector{byte(next(200)), 1}
				}
			}
			got, err := cycle.Apply(im, x.c)
			if want := after(im, x.c.Writes); err != api.OK || !image.Same(got, want) {
				t.Errorf("Apply of the cycle %d: got %s, %d, want %s", i, brief(got), err, brief(want))
			}
		}
	}
	got, err := cycle.Apply(picture("mnop", "qrstuv"), ordinary().c)
	if want := picture("mabp", "crd.ef"); err != api.OK || !image.Same(got, want) {
		t.Errorf("Apply: got %v, %d, want %v", got, err, want)
	}
}

func TestP232ApplyErrors(t *testing.T) {
	expectError := func(what string, im api.Image, c api.Cycle, want api.Errno) {
		t.Helper()
		if got, err := cycle.Apply(im, c); err != want || len(got) > 0 {
			t.Errorf("Apply with %s: got %s, %d, want %d", what, brief(got), err, want)
		}
	}
	wrong := ordinary().c
	wrong.Number = 0
	for _, c := range []api.Cycle{ordinary().c, wrong, {}} {
		expectError("no volumes", nil, c, api.ErrMany)
		expectError("nine volumes", blank(slices.Repeat([]int{1}, 9)), c, api.ErrMany)
		expectError("an empty volume", blank([]int{4, 0}), c, api.ErrRange)
		expectError("a volume that is too large", blank([]int{4097, 6}), c, api.ErrRange)
	}
	brokenCycles(func(name string, c api.Cycle, err api.Errno) { expectError(name, blank([]int{4, 6}), c, err) })
	expectError("one volume", blank([]int{4}), ordinary().c, api.ErrNone)
	expectError("small volumes", blank([]int{4, 5}), ordinary().c, api.ErrRange)
	expectError("a small first volume", blank([]int{2, 9}), ordinary().c, api.ErrRange)
	// The first write with an error decides, whichever it is.
	two := api.Cycle{Number: 1, Writes: []api.Write{to(0, 4, "a"), to(0, 5, "b")}}
	expectError("writes that do not fit and touch", blank([]int{4}), two, api.ErrRange)
	expectError("writes that touch and do not fit", blank([]int{5}), two, api.ErrRange)
	expectError("writes that touch", blank([]int{6}), two, api.ErrForm)
}

// pair is what Compose is called with.
type pair struct{ a, b api.Cycle }

// neighbours are cycles that can be composed.
func neighbours() pair {
	a := api.Cycle{Base: 2, Number: 4, Time: 80, Positions: []int{3, 0, 2}, Writes: []api.Write{to(0, 1, "xy"), to(0, 5, "z"), to(1, 1, "v"), to(3, 0, "w")}}
	return pair{a, ordinary().c}
}

func TestP232Compose(t *testing.T) {
	x := neighbours()
	want := api.Cycle{Base: 2, Number: 6, Time: 90, Positions: []int{3, 0, 5}, Writes: []api.Write{to(0, 1, "ab"), to(0, 5, "z"), to(1, 0, "cvd.ef"), to(3, 0, "w")}}
	got, err := cycle.Compose(x.a, x.b)
	expectCycle(t, "Compose", got, err, want, api.OK)
	for _, change := range []func(x *pair){
		func(x *pair) { x.a.Base = 0 },
		func(x *pair) { x.a.Number, x.b.Base, x.b.Number = api.MaxTime-1, api.MaxTime-1, api.MaxTime },
		func(x *pair) { x.a.Time = 90 },
		func(x *pair) { x.a.Time, x.b.Time = 0, api.MaxTime },
		func(x *pair) { x.a.Positions = []int{3, 0, 5} },
		func(x *pair) { x.a.Positions, x.b.Positions = nil, nil },
		func(x *pair) { x.a.Positions, x.b.Positions = make([]int, 8), slices.Repeat([]int{api.MaxTime}, 8) },
		func(x *pair) { x.a.Writes = nil },
		func(x *pair) { x.b.Writes = nil },
		func(x *pair) { x.a.Writes, x.b.Writes = nil, nil },
		func(x *pair) { x.a.Writes, x.b.Writes = []api.Write{zeros(7, 0, 4096)}, []api.Write{to(7, 4095, "a")} },
	} {
		x := neighbours()
		change(&x)
		want := api.Cycle{Base: x.a.Base, Number: x.b.Number, Time: x.b.Time, Positions: x.b.Positions, Writes: canonical(slices.Concat(x.a.Writes, x.b.Writes), largest())}
		got, err := cycle.Compose(x.a, x.b)
		expectCycle(t, "Compose of "+brief(x), got, err, want, api.OK)
	}
	all := inOrder()
	for _, a := range all {
		for _, b := range all {
			a.c.Base, a.c.Number, a.c.Time, b.c.Base, b.c.Number, b.c.Time = 1, 2, 3, 2, 3, 4
			a.c.Positions, b.c.Positions = []int{1, 2}, []int{1, 3}
			if len(a.c.Writes)+len(b.c.Writes) < 4 && len(a.sizes) == 2 && slices.Equal(a.sizes, b.sizes) {
				want := api.Cycle{Base: 1, Number: 3, Time: 4, Positions: []int{1, 3}, Writes: canonical(slices.Concat(a.c.Writes, b.c.Writes), a.sizes)}
				got, err := cycle.Compose(a.c, b.c)
				expectCycle(t, "Compose", got, err, want, api.OK)
			}
		}
	}
}

func TestP232ComposeErrors(t *testing.T) {
	broken(neighbours, composeFaults(), func(name string, x pair, err api.Errno) {
		got, code := cycle.Compose(x.a, x.b)
		expectCycle(t, "Compose with "+name, got, code, api.Cycle{}, err)
	})
	brokenCycles(func(name string, c api.Cycle, err api.Errno) {
		got, code := cycle.Compose(c, neighbours().b)
		expectCycle(t, "Compose with a first cycle with "+name, got, code, api.Cycle{}, err)
		got, code = cycle.Compose(c, api.Cycle{Base: -1, Time: -1})
		expectCycle(t, "Compose with wrong cycles and "+name, got, code, api.Cycle{}, err)
		got, code = cycle.Compose(neighbours().a, c)
		expectCycle(t, "Compose with a second cycle with "+name, got, code, api.Cycle{}, err)
	})
}

// composeFaults are what hinders the composition of neighbours, in the order in which Compose finds it.
func composeFaults() [][]fault[pair] {
	return [][]fault[pair]{
		{
			{"a first cycle without a number", api.ErrRange, func(x *pair) { x.a.Number = x.a.Base }},
			{"a first cycle without a time", api.ErrTime, func(x *pair) { x.a.Time = -1 }},
			{"a first cycle that is not canonical", api.ErrForm, func(x *pair) { x.a.Writes[1] = to(0, 0, "a") }},
		},
		{
			{"a second cycle without a number", api.ErrRange, func(x *pair) { x.b.Number = 0 }},
			{"a second cycle with a wrong position", api.ErrRange, func(x *pair) { x.b.Positions = append([]int{-1}, x.b.Positions...) }},
			{"a second cycle with an empty write", api.ErrArg, func(x *pair) { x.b.Writes[2].Data = nil }},
		},
		{
			{"a gap", api.ErrGap, func(x *pair) { x.b.Base++ }},
			{"an overlap", api.ErrGap, func(x *pair) { x.b.Base-- }},
			{"an earlier second cycle", api.ErrGap, func(x *pair) { x.b.Base, x.b.Number = 0, 2 }},
			{"the same base", api.ErrGap, func(x *pair) { x.b.Base = x.a.Base }},
		},
		{
			{"fewer positions", api.ErrMany, func(x *pair) { x.b.Positions = x.b.Positions[:2] }},
			{"more positions", api.ErrMany, func(x *pair) { x.b.Positions = append(x.b.Positions, 0) }},
			{"no positions", api.ErrMany, func(x *pair) { x.b.Positions = nil }},
			{"no earlier positions", api.ErrMany, func(x *pair) { x.a.Positions = nil }},
		},
		{
			{"an earlier time", api.ErrTime, func(x *pair) { x.b.Time = 79 }},
			{"the first time", api.ErrTime, func(x *pair) { x.b.Time = 0 }},
		},
		{
			{"a lesser first position", api.ErrRange, func(x *pair) { x.b.Positions[0] = 2 }},
			{"a lesser last position", api.ErrRange, func(x *pair) { x.b.Positions[2] = 1 }},
			{"a greater earlier position", api.ErrRange, func(x *pair) { x.a.Positions[1] = 1 }},
		},
	}
}

// added is a write with its node, as it was added.
type added struct {
	node int
	w    api.Write
}

// within is the image of the writes within positions.
func within(im api.Image, all []added, positions []int) api.Image {
	counts := make([]int, len(positions))
	var l []api.Write
	for _, x := range all {
		if counts[x.node] < positions[x.node] {
			l = append(l, x.w)
		}
		counts[x.node]++
	}
	return after(im, l)
}

// apply is the image behind a cycle.
func apply(t *testing.T, im api.Image, c api.Cycle) api.Image {
	t.Helper()
	im, err := cycle.Apply(im, c)
	if err != api.OK {
		t.Fatalf("Apply: got %d", err)
	}
	return im
}

// expectComposed reports whether the composition of the cycles from im on leads to another image.
func expectComposed(t *testing.T, im api.Image, cycles []api.Cycle) {
	t.Helper()
	images := []api.Image{im}
	for _, c := range cycles {
		images = append(images, apply(t, images[len(images)-1], c))
	}
	last := images[len(cycles)]
	composed := cycles[0]
	for i, c := range cycles[1:] {
		both, err := cycle.Compose(composed, c)
		if err != api.OK {
			t.Fatalf("Compose: got %d", err)
		}
		// The first one may have been applied already.
		for _, begun := range []api.Image{images[0], images[i+1]} {
			if got := apply(t, begun, both); !image.Same(got, images[i+2]) {
				t.Errorf("a composed cycle leads to %s, not to %s", brief(got), brief(images[i+2]))
			}
		}
		composed = both
	}
	if got := apply(t, last, cycles[len(cycles)-1]); !image.Same(got, last) {
		t.Errorf("the last cycle, applied twice, leads to %s, not to %s", brief(got), brief(last))
	}
}

// expectImages adds writes to a capture and closes cycles, and reports where the image behind a cycle is not that of the writes within its positions.
func expectImages(t *testing.T, next func(int) int, sizes []int, nodes, steps int) {
	t.Helper()
	c, err := cycle.Open(sizes, nodes, 0)
	var all []added
	var cycles []api.Cycle
	first := blank(sizes)
	im := first
	for step := range steps {
		if next(4) > 0 {
			volume := next(len(sizes))
			count := 1 + next(min(3, sizes[volume]))
			x := added{next(nodes), zeros(volume, next(sizes[volume]-count+1), count)}
			for i := range x.w.Data {
				x.w.Data[i] = api.Sector{byte(step), byte(step >> 8), byte(i), 1}
			}
			all = append(all, x)
			c, err = cycle.Add(c, x.node, x.w)
		} else {
			var closed api.Cycle
			c, closed, err = cycle.Close(c, step, randomPositions(next, c))
			cycles = append(cycles, closed)
			if err == api.OK {
				im = apply(t, im, closed)
			}
		}
		if err != api.OK {
			t.Fatalf("step %d: got %d", step, err)
		}
		if want := within(first, all, c.Positions); !image.Same(im, want) {
			t.Fatalf("behind the positions %v: the image %s, want %s", c.Positions, brief(im), brief(want))
		}
	}
	if len(cycles) > 0 {
		expectComposed(t, first, cycles)
	}
}

func TestP233Images(t *testing.T) {
	for seed := range 400 {
		next := random(uint32(seed + 50))
		sizes := [][]int{{1}, {2}, {3, 2}, {9, 1, 4}}[next(4)]
		expectImages(t, next, sizes, 1+next(4), 60)
	}
	// All divisions of few writes into three cycles.
	for _, c := range small(4, 2) {
		if len(c.Writes) < 4 {
			continue
		}
		var all []added
		for i, node := range c.Nodes {
			all = append(all, added{node, c.Writes[i]})
		}
		c.Positions = []int{0, 0}
		im := picture("xy")
		for _, first := range reachable(c) {
			behind, one, _ := cycle.Close(c, 1, first)
			middle := apply(t, im, one)
			if want := within(im, all, first); !image.Same(middle, want) {
				t.Errorf("behind %v of %s: %v, want %v", first, brief(c), middle, want)
			}
			for _, second := range reachable(behind) {
				rest, two, err := cycle.Close(behind, 2, second)
				if got, want := apply(t, middle, two), within(im, all, second); err != api.OK || !image.Same(got, want) {
					t.Errorf("behind %v and %v of %s: %v, want %v", first, second, brief(c), got, want)
				}
				_, three, err := cycle.Close(rest, 3, reachable(rest)[len(reachable(rest))-1])
				if err != api.OK {
					t.Fatalf("Close: got %d", err)
				}
				expectComposed(t, im, []api.Cycle{one, two, three})
			}
		}
	}
}

func TestP233Encoding(t *testing.T) {
	for _, x := range inOrder() {
		b, err := cycle.Encode(x.c)
		if err == api.ErrLong {
			continue
		}
		got, code := cycle.Decode(b)
		expectCycle(t, "Decode of Encode", got, code, x.c, api.OK)
		if err != api.OK {
			t.Errorf("Encode: got %d", err)
		}
	}
	// Whatever is decoded, is encoded so again.
	b, decoded := text(ordinary().c), 0
	for i := range b {
		for x := range 256 {
			changed := slices.Clone(b)
			changed[i] = byte(x)
			c, err := cycle.Decode(changed)
			if err != api.OK {
				continue
			}
			decoded++
			again, err := cycle.Encode(c)
			expectBytes(t, "Encode of Decode", again, err, changed, api.OK)
		}
	}
	if decoded < 256*8*7 {
		t.Errorf("only %d changed encodings are decoded", decoded)
	}
}

func TestP233Composition(t *testing.T) {
	for seed := range 200 {
		next := random(uint32(seed + 900))
		c := randomCapture(next, 30)
		c.Positions = make([]int, len(c.Positions))
		var cycles []api.Cycle
		for time := range 4 {
			behind, closed, err := cycle.Close(c, time, randomPositions(next, c))
			if err != api.OK {
				t.Fatalf("Close: got %d", err)
			}
			c = behind
			cycles = append(cycles, closed)
		}
		expectComposed(t, blank(c.Sizes), cycles)
		// The order in which cycles are composed does not matter.
		left, err := cycle.Compose(cycles[0], cycles[1])
		if err == api.OK {
			left, err = cycle.Compose(left, cycles[2])
		}
		right, code := cycle.Compose(cycles[1], cycles[2])
		if code == api.OK {
			right, code = cycle.Compose(cycles[0], right)
		}
		if err != api.OK || code != api.OK || !sameCycle(left, right) {
			t.Errorf("Compose in another order: got %s, %d and %s, %d", brief(left), err, brief(right), code)
		}
		if coalesce.Sectors(left.Writes) > coalesce.Sectors(slices.Concat(cycles[0].Writes, cycles[1].Writes, cycles[2].Writes)) {
			t.Error("a composed cycle has more sectors than its parts")
		}
	}
}

// spoil changes everything that a value reaches, its spare capacity too.
func spoil(v reflect.Value) {
	switch v.Kind() {
	case reflect.Slice:
		for i := range v.Cap() {
			spoil(v.Slice(0, v.Cap()).Index(i))
		}
	case reflect.Array:
		for i := range v.Len() {
			spoil(v.Index(i))
		}
	case reflect.Struct:
		for i := range v.NumField() {
			spoil(v.Field(i))
		}
	case reflect.Int:
		v.SetInt(77)
	case reflect.Uint8:
		v.SetUint(77)
	}
}

// everything lists the numbers that a value reaches, those in its spare capacity too.
func everything(v reflect.Value) []any {
	var l []any
	switch v.Kind() {
	case reflect.Slice:
		l = append(l, v.Len())
		for i := range v.Cap() {
			l = append(l, everything(v.Slice(0, v.Cap()).Index(i))...)
		}
	case reflect.Array:
		for i := range v.Len() {
			l = append(l, everything(v.Index(i))...)
		}
	case reflect.Struct:
		for i := range v.NumField() {
			l = append(l, everything(v.Field(i))...)
		}
	default:
		l = append(l, v.Interface())
	}
	return l
}

// spare returns a copy of a list with one more element in its spare capacity.
func spare[T any](l []T, beyond T) []T {
	return append(slices.Clone(l), beyond)[:len(l)]
}

// padded is a list of writes with elements in the spare capacity of it and of its contents.
func padded(l []api.Write) []api.Write {
	for i, w := range l {
		l[i].Data = spare(w.Data, api.Sector{5})
	}
	return spare(l, to(1, 3, "z"))
}

// Arguments are what the functions are called with.
type Arguments struct {
	Capture          api.Capture
	First, Second    api.Cycle
	W                api.Write
	Image            api.Image
	Sizes, Positions []int
	Encoded          []byte
}

// values are arguments with elements in their spare capacity.
func values() Arguments {
	x := neighbours()
	a := Arguments{Capture: collected(), First: x.a, Second: x.b, W: to(0, 1, "k"), Image: picture("mnopqrs", "qrstuv", "x", "y"), Sizes: spare([]int{4, 6}, 3), Positions: spare([]int{9, 0, 4}, 2)}
	a.Capture.Sizes, a.Capture.Positions, a.Capture.Nodes, a.Capture.Writes = spare(a.Capture.Sizes, 4), spare(a.Capture.Positions, 5), spare(a.Capture.Nodes, 1), padded(a.Capture.Writes)
	for _, c := range []*api.Cycle{&a.First, &a.Second} {
		c.Positions, c.Writes = spare(c.Positions, 9), padded(c.Writes)
	}
	a.W.Data = spare(a.W.Data, api.Sector{8})
	for i, sectors := range a.Image {
		a.Image[i] = spare(sectors, api.Sector{7})
	}
	a.Image, a.Encoded = spare(a.Image, list("n")), spare(text(a.Second), 6)
	return a
}

// results are what the functions make of their arguments.
func results(t *testing.T, a Arguments) []any {
	t.Helper()
	opened, err := cycle.Open(a.Sizes, 3, 5)
	more, err2 := cycle.Add(a.Capture, 1, a.W)
	behind, closed, err3 := cycle.Close(a.Capture, 5, a.Positions)
	same, empty, err4 := cycle.Close(a.Capture, 5, []int{7, 0, 3})
	b, err5 := cycle.Encode(a.First)
	decoded, err6 := cycle.Decode(a.Encoded)
	im, err7 := cycle.Apply(a.Image, a.First)
	copied, err8 := cycle.Apply(a.Image, api.Cycle{Number: 1})
	composed, err9 := cycle.Compose(a.First, a.Second)
	a.First.Writes = nil
	later, err10 := cycle.Compose(a.First, a.Second)
	for i, err := range []api.Errno{err, err2, err3, err4, err5, err6, err7, err8, err9, err10, cycle.Check(a.Second, a.Sizes)} {
		if err != api.OK {
			t.Fatalf("result %d: got %d", i, err)
		}
	}
	return []any{&opened, &more, &behind, &closed, &same, &empty, &b, &decoded, &im, &copied, &composed, &later}
}

// slicesOf returns all lists that a value reaches.
func slicesOf(v reflect.Value) []reflect.Value {
	var l []reflect.Value
	switch v.Kind() {
	case reflect.Slice:
		if v.Cap() > 0 {
			l = append(l, v)
		}
		for i := range v.Len() {
			l = append(l, slicesOf(v.Index(i))...)
		}
	case reflect.Struct:
		for i := range v.NumField() {
			l = append(l, slicesOf(v.Field(i))...)
		}
	}
	return l
}

// overlap reports whether two lists share memory.
func overlap(a, b reflect.Value) bool {
	size := func(v reflect.Value) uintptr { return uintptr(v.Cap()) * v.Type().Elem().Size() }
	return a.Pointer() < b.Pointer()+size(b) && b.Pointer() < a.Pointer()+size(a)
}

func TestValues(t *testing.T) {
	a := values()
	got := results(t, a)
	if !reflect.DeepEqual(everything(reflect.ValueOf(a)), everything(reflect.ValueOf(values()))) {
		t.Error("the arguments are modified")
	}
	all := slicesOf(reflect.ValueOf(a))
	for _, x := range got {
		all = append(all, slicesOf(reflect.ValueOf(x).Elem())...)
	}
	for i, v := range all {
		for _, w := range all[:i] {
			if overlap(v, w) {
				t.Errorf("two lists of the arguments and results share memory: %v, %v", v, w)
			}
		}
	}
	want := results(t, values())
	spoil(reflect.ValueOf(&a).Elem())
	if !reflect.DeepEqual(got, want) {
		t.Error("the results have changed with the arguments")
	}
	for i := range got {
		spoil(reflect.ValueOf(got[i]).Elem())
	}
	if again := results(t, values()); !reflect.DeepEqual(again, want) {
		t.Error("the results have changed with earlier ones")
	}
}
