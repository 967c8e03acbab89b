package bitmap_test

import (
	"math"
	"slices"
	"testing"

	"standby/api"
	"standby/bitmap"
	"standby/extent"
)

// at is the extent with a Start and a Count.
func at(start, count int) api.Extent {
	return api.Extent{Start: start, Count: count}
}

// sizes are the sizes around the ends of words, and the limits.
func sizes() []int {
	return []int{0, 1, 3, 63, 64, 65, 70, 127, 128, 129, 4033, 4095, 4096}
}

// model is a set of sectors, one bool for each sector of the size.
type model []bool

// bitmapOf is the bitmap of a model, bit by bit.
func bitmapOf(m model) api.Bitmap {
	b := api.Bitmap{Size: len(m)}
	for i, in := range m {
		if i%64 == 0 {
			b.Words = append(b.Words, 0)
		}
		if in {
			b.Words[i/64] += 1 << (i % 64)
		}
	}
	return b
}

// models are sets of a size: none, all, single sectors, patterns, and ranges.
func models(size int) []model {
	var l []model
	add := func(in func(int) bool) {
		m := make(model, size)
		for i := range m {
			m[i] = in(i)
		}
		l = append(l, m)
	}
	add(func(int) bool { return false })
	add(func(int) bool { return true })
	add(func(i int) bool { return i == 0 })
	add(func(i int) bool { return i == size-1 })
	add(func(i int) bool { return i%2 == 0 })
	add(func(i int) bool { return i%3 != 0 })
	add(func(i int) bool { return i%64 == 63 })
	add(func(i int) bool { return i >= 60 && i < 68 })
	add(func(i int) bool { return i/64%2 == 1 })
	seed := uint32(size)
	for range 3 {
		add(func(int) bool {
			seed = seed*1664525 + 1013904223
			return seed>>30 == 0
		})
	}
	return l
}

// extentsFor are extents that fit a size, and some that do not.
func extentsFor(size int) []api.Extent {
	var l []api.Extent
	for _, start := range []int{math.MinInt, -64, -1, 0, 1, 2, 62, 63, 64, 65, 100, size - 2, size - 1, size, size + 1, size + 64, math.MaxInt} {
		for _, count := range []int{math.MinInt, -1, 0, 1, 2, 3, 63, 64, 65, 129, size - start - 1, size - start, size - start + 1, size, math.MaxInt} {
			l = append(l, at(start, count))
		}
	}
	return l
}

// fits decides by the definition whether an extent fits; the sum of two numbers that are not negative fits into a word without a sign.
func fits(e api.Extent, size int) bool {
	return e.Start >= 0 && e.Count >= 0 && uint64(e.Start)+uint64(e.Count) <= uint64(size)
}

// malformed are bitmaps that are not well-formed.
func malformed() []api.Bitmap {
	return []api.Bitmap{
		{Size: 3, Words: []uint64{8}},
		{Size: 0, Words: []uint64{0}},
		{Size: 1},
		{Size: 1, Words: []uint64{}},
		{Size: 1, Words: []uint64{2}},
		{Size: 1, Words: []uint64{1, 0}},
		{Size: 63, Words: []uint64{1 << 63}},
		{Size: 64, Words: []uint64{1, 0}},
		{Size: 64},
		{Size: 65, Words: []uint64{1}},
		{Size: 65, Words: []uint64{1, 2}},
		{Size: 65, Words: []uint64{1, 1 << 63}},
		{Size: 65, Words: []uint64{1, 0, 0}},
		{Size: -1},
		{Size: -1, Words: []uint64{0}},
		{Size: -64, Words: []uint64{0}},
		{Size: 4095, Words: append(make([]uint64, 63), 1<<63)},
		{Size: 4096, Words: make([]uint64, 63)},
		{Size: 4097, Words: make([]uint64, 65)},
		{Size: 4160, Words: make([]uint64, 65)},
		{Size: math.MaxInt},
		{Size: math.MaxInt, Words: []uint64{0}},
		{Size: math.MinInt},
		{Size: math.MinInt, Words: []uint64{0}},
	}
}

func equal(a, b api.Bitmap) bool {
	return a.Size == b.Size && slices.Equal(a.Words, b.Words)
}

// expect reports a bitmap or an error that is not the wanted one; beside an error the bitmap has to be the zero value.
func expect(t *testing.T, what string, got api.Bitmap, err api.Errno, want api.Bitmap, code api.Errno) {
	t.Helper()
	if code != api.OK {
		want = api.Bitmap{}
	}
	if err != code || !equal(got, want) {
		t.Errorf("%s: got %v, %d, want %v, %d", what, got, err, want, code)
	}
}

func TestP21New(t *testing.T) {
	for _, n := range sizes() {
		b, err := bitmap.New(n)
		expect(t, "New", b, err, bitmapOf(make(model, n)), api.OK)
		if got := bitmap.Check(b); got != api.OK {
			t.Errorf("Check of a new bitmap of the size %d: got %d", n, got)
		}
	}
	for _, n := range []int{-1, -64, 4097, math.MinInt, math.MaxInt} {
		b, err := bitmap.New(n)
		expect(t, "New of a wrong size", b, err, api.Bitmap{}, api.ErrRange)
	}
}

func TestP21Check(t *testing.T) {
	for _, n := range sizes() {
		for _, m := range models(n) {
			if err := bitmap.Check(bitmapOf(m)); err != api.OK {
				t.Errorf("Check of a bitmap of the size %d: got %d", n, err)
			}
		}
	}
	for _, b := range malformed() {
		if err := bitmap.Check(b); err != api.ErrForm {
			t.Errorf("Check(%v): got %d, want ErrForm", b, err)
		}
	}
}

func TestP21Example(t *testing.T) {
	b, _ := bitmap.New(70)
	b, err := bitmap.Set(b, at(60, 8))
	expect(t, "Set", b, err, api.Bitmap{Size: 70, Words: []uint64{15 << 60, 15}}, api.OK)
	if bitmap.Next(b, 0) != 60 || bitmap.Next(b, 68) != -1 || bitmap.Count(b) != 8 {
		t.Errorf("Next from 0: %d, from 68: %d, Count: %d", bitmap.Next(b, 0), bitmap.Next(b, 68), bitmap.Count(b))
	}
	c, err := bitmap.Clear(b, at(62, 2))
	expect(t, "Clear", c, err, api.Bitmap{Size: 70, Words: []uint64{3 << 60, 15}}, api.OK)
	if l := bitmap.Extents(c); !slices.Equal(l, []api.Extent{at(60, 2), at(64, 4)}) {
		t.Errorf("Extents: got %v", l)
	}
	c, err = bitmap.Set(b, at(69, 2))
	expect(t, "Set beyond the size", c, err, api.Bitmap{}, api.ErrRange)
}

func TestP21SetAndClear(t *testing.T) {
	for _, n := range sizes() {
		for _, m := range models(n) {
			b := bitmapOf(m)
			for _, e := range extentsFor(n) {
				set, clear, code := slices.Clone(m), slices.Clone(m), api.ErrRange
				if fits(e, n) {
					code = api.OK
					for i := e.Start; i < e.Start+e.Count; i++ {
						set[i], clear[i] = true, false
					}
				}
				got, err := bitmap.Set(b, e)
				expect(t, "Set", got, err, bitmapOf(set), code)
				got, err = bitmap.Clear(b, e)
				expect(t, "Clear", got, err, bitmapOf(clear), code)
				if t.Failed() {
					t.Fatalf("the size is %d, the extent %v", n, e)
				}
			}
		}
	}
}

func TestP21SetAndClearMalformed(t *testing.T) {
	for _, b := range malformed() {
		// The form is checked before the extent.
		for _, e := range []api.Extent{at(0, 0), at(0, 1), at(-1, 1), at(0, math.MaxInt)} {
			got, err := bitmap.Set(b, e)
			expect(t, "Set", got, err, api.Bitmap{}, api.ErrForm)
			got, err = bitmap.Clear(b, e)
			expect(t, "Clear", got, err, api.Bitmap{}, api.ErrForm)
		}
	}
}

func TestP21Reading(t *testing.T) {
	for _, n := range sizes() {
		for _, m := range models(n) {
			b, count, next := bitmapOf(m), 0, -1
			for i := n - 1; i >= 0; i-- {
				if got := bitmap.Get(b, i); got != m[i] {
					t.Fatalf("Get(%v, %d): got %v", b, i, got)
				}
				if m[i] {
					count, next = count+1, i
				}
				if got := bitmap.Next(b, i); got != next {
					t.Fatalf("Next(%v, %d): got %d, want %d", b, i, got, next)
				}
			}
			if got := bitmap.Count(b); got != count {
				t.Errorf("Count(%v): got %d, want %d", b, got, count)
			}
			for _, i := range []int{math.MinInt, -65, -64, -1} {
				if bitmap.Get(b, i) || bitmap.Next(b, i) != next {
					t.Errorf("%v before the first sector: Get %v, Next %d, want false, %d", b, bitmap.Get(b, i), bitmap.Next(b, i), next)
				}
			}
			for _, i := range []int{n, n + 1, n + 64, 4096, math.MaxInt} {
				if bitmap.Get(b, i) || bitmap.Next(b, i) != -1 {
					t.Errorf("%v from %d on: Get %v, Next %d, want false, -1", b, i, bitmap.Get(b, i), bitmap.Next(b, i))
				}
			}
		}
	}
}

func TestP21ReadingMalformed(t *testing.T) {
	for _, b := range malformed() {
		for _, i := range []int{math.MinInt, -1, 0, 1, 3, 62, 63, 64, 65, 127, math.MaxInt} {
			if bitmap.Get(b, i) || bitmap.Next(b, i) != -1 {
				t.Errorf("%v at %d: Get %v, Next %d, want false, -1", b, i, bitmap.Get(b, i), bitmap.Next(b, i))
			}
		}
		if bitmap.Count(b) != 0 {
			t.Errorf("Count(%v): got %d, want 0", b, bitmap.Count(b))
		}
	}
}

func TestP22Combine(t *testing.T) {
	for _, n := range sizes() {
		for _, x := range models(n) {
			for _, y := range models(n) {
				or, and, not := make(model, n), make(model, n), make(model, n)
				for i := range n {
					or[i], and[i], not[i] = x[i] || y[i], x[i] && y[i], x[i] && !y[i]
				}
				a, b := bitmapOf(x), bitmapOf(y)
				got, err := bitmap.Or(a, b)
				expect(t, "Or", got, err, bitmapOf(or), api.OK)
				got, err = bitmap.And(a, b)
				expect(t, "And", got, err, bitmapOf(and), api.OK)
				got, err = bitmap.AndNot(a, b)
				expect(t, "AndNot", got, err, bitmapOf(not), api.OK)
			}
		}
	}
}

func TestP22CombineErrors(t *testing.T) {
	good := bitmapOf(make(model, 70))
	type pair struct {
		a, b api.Bitmap
		want api.Errno
	}
	pairs := []pair{
		{good, bitmapOf(make(model, 71)), api.ErrMismatch},
		{bitmapOf(make(model, 71)), good, api.ErrMismatch},
		{good, api.Bitmap{}, api.ErrMismatch},
		{bitmapOf(make(model, 64)), bitmapOf(make(model, 63)), api.ErrMismatch},
	}
	for _, b := range malformed() {
		// A wrong form is found before different sizes.
		pairs = append(pairs, pair{good, b, api.ErrForm}, pair{b, good, api.ErrForm}, pair{b, b, api.ErrForm})
	}
	for _, p := range pairs {
		got, err := bitmap.Or(p.a, p.b)
		expect(t, "Or", got, err, api.Bitmap{}, p.want)
		got, err = bitmap.And(p.a, p.b)
		expect(t, "And", got, err, api.Bitmap{}, p.want)
		got, err = bitmap.AndNot(p.a, p.b)
		expect(t, "AndNot", got, err, api.Bitmap{}, p.want)
	}
}

func TestP22Extents(t *testing.T) {
	for _, n := range sizes() {
		for _, m := range models(n) {
			var want []api.Extent
			for i, in := range m {
				switch {
				case !in:
				case i > 0 && m[i-1]:
					want[len(want)-1].Count++
				default:
					want = append(want, at(i, 1))
				}
			}
			if got := bitmap.Extents(bitmapOf(m)); !slices.Equal(got, want) {
				t.Errorf("Extents(%v): got %v, want %v", bitmapOf(m), got, want)
			}
		}
	}
	for _, b := range malformed() {
		if got := bitmap.Extents(b); len(got) > 0 {
			t.Errorf("Extents(%v): got %v", b, got)
		}
	}
}

func TestP22FromExtents(t *testing.T) {
	for _, n := range sizes() {
		all := extentsFor(n)
		for i, e := range all {
			// Overlapping extents in any order, of which one may not fit.
			l := []api.Extent{all[(i*7+5)%len(all)], e, e}
			m, code := make(model, n), api.OK
			for _, e := range l {
				if !fits(e, n) {
					code = api.ErrRange
					break
				}
				for s := e.Start; s < e.Start+e.Count; s++ {
					m[s] = true
				}
			}
			got, err := bitmap.FromExtents(n, l)
			expect(t, "FromExtents", got, err, bitmapOf(m), code)
		}
		got, err := bitmap.FromExtents(n, nil)
		expect(t, "FromExtents of nothing", got, err, bitmapOf(make(model, n)), api.OK)
	}
	for _, n := range []int{-1, 4097, math.MinInt, math.MaxInt} {
		for _, l := range [][]api.Extent{nil, {at(0, 0)}, {at(0, 1)}} {
			got, err := bitmap.FromExtents(n, l)
			expect(t, "FromExtents of a wrong size", got, err, api.Bitmap{}, api.ErrRange)
		}
	}
}

func TestP22FromExtentsMany(t *testing.T) {
	l := []api.Extent{at(60, 8), at(2, 0), at(70, 0), at(66, 1), at(0, 1), at(1, 2), at(59, 3)}
	b, err := bitmap.FromExtents(70, l)
	expect(t, "FromExtents", b, err, api.Bitmap{Size: 70, Words: []uint64{31<<59 | 7, 15}}, api.OK)
	b, err = bitmap.FromExtents(70, append(l, at(71, 0)))
	expect(t, "an empty extent beyond the size", b, err, api.Bitmap{}, api.ErrRange)
	b, err = bitmap.FromExtents(70, append(l, at(0, -1)))
	expect(t, "a negative Count", b, err, api.Bitmap{}, api.ErrRange)
}

func TestP23Inverse(t *testing.T) {
	for _, n := range sizes() {
		for _, m := range models(n) {
			b := bitmapOf(m)
			got, err := bitmap.FromExtents(n, bitmap.Extents(b))
			expect(t, "FromExtents of Extents", got, err, b, api.OK)
		}
		all := extentsFor(n)
		for i, e := range all {
			l := []api.Extent{e, all[(i*11+3)%len(all)]}
			b, err := bitmap.FromExtents(n, l)
			if err != api.OK {
				continue
			}
			if got := bitmap.Extents(b); !slices.Equal(got, extent.Union(l, nil)) || extent.Check(got, n) != api.OK {
				t.Errorf("Extents of FromExtents(%d, %v): got %v", n, l, got)
			}
		}
	}
}

func TestP23Elements(t *testing.T) {
	for _, n := range sizes() {
		for _, m := range models(n) {
			b, visited, before := bitmapOf(m), 0, -1
			for i := bitmap.Next(b, 0); i >= 0; i = bitmap.Next(b, i+1) {
				if i <= before || !bitmap.Get(b, i) {
					t.Fatalf("Next(%v): %d follows %d", b, i, before)
				}
				visited, before = visited+1, i
			}
			if visited != bitmap.Count(b) {
				t.Errorf("Next(%v): got %d elements, want %d", b, visited, bitmap.Count(b))
			}
		}
	}
}

func TestP23EqualSets(t *testing.T) {
	for _, n := range sizes() {
		for _, m := range models(n) {
			// The set is built sector by sector, and the other one by removal from the full set.
			added, _ := bitmap.New(n)
			removed, _ := bitmap.FromExtents(n, []api.Extent{at(0, n)})
			for i := n - 1; i >= 0; i-- {
				if m[i] {
					added, _ = bitmap.Set(added, at(i, 1))
				} else {
					removed, _ = bitmap.Clear(removed, at(i, 1))
				}
			}
			if b := bitmapOf(m); !equal(added, b) || !equal(removed, b) {
				t.Errorf("one set, two bitmaps: %v, %v, want %v", added, removed, b)
			}
		}
	}
}

func TestP23Counts(t *testing.T) {
	for _, n := range sizes() {
		for _, x := range models(n) {
			for _, y := range models(n) {
				a, b := bitmapOf(x), bitmapOf(y)
				or, _ := bitmap.Or(a, b)
				and, _ := bitmap.And(a, b)
				if bitmap.Count(or)+bitmap.Count(and) != bitmap.Count(a)+bitmap.Count(b) {
					t.Errorf("%v and %v: the numbers of elements do not add up", a, b)
				}
			}
		}
	}
}

// results are the bitmaps that all functions make of two bitmaps, an extent, and a list.
func results(a, b api.Bitmap, l []api.Extent) []api.Bitmap {
	set, _ := bitmap.Set(a, at(1, 66))
	clear, _ := bitmap.Clear(a, at(1, 66))
	none, _ := bitmap.Set(a, at(0, 0))
	kept, _ := bitmap.Clear(a, at(0, 0))
	or, _ := bitmap.Or(a, b)
	and, _ := bitmap.And(a, a)
	not, _ := bitmap.AndNot(a, b)
	from, _ := bitmap.FromExtents(a.Size, l)
	return []api.Bitmap{set, clear, none, kept, or, and, not, from}
}

func TestValues(t *testing.T) {
	wordsA, wordsB, l := []uint64{1 << 63, 5, 99, 98}, []uint64{7, 1, 97, 96}, []api.Extent{at(60, 8), at(1, 2), at(3, 3)}
	fresh := func() (api.Bitmap, api.Bitmap, []api.Extent) {
		// The last two words and the last extent are spare capacity.
		return api.Bitmap{Size: 70, Words: slices.Clone(wordsA)[:2]}, api.Bitmap{Size: 70, Words: slices.Clone(wordsB)[:2]}, slices.Clone(l)[:2]
	}
	a, b, some := fresh()
	wanted := results(fresh())
	got := results(a, b, some)
	extents := bitmap.Extents(a)
	if !slices.Equal(a.Words[:4], wordsA) || !slices.Equal(b.Words[:4], wordsB) || !slices.Equal(some[:3], l) {
		t.Errorf("the arguments are modified: %v, %v, %v", a, b, some)
	}
	clear(a.Words)
	clear(b.Words)
	clear(some)
	for i := range got {
		expect(t, "a result after a change of the arguments", got[i], api.OK, wanted[i], api.OK)
		clear(got[i].Words[:cap(got[i].Words)])
		for k := i + 1; k < len(got); k++ {
			expect(t, "a result after a change of another one", got[k], api.OK, wanted[k], api.OK)
		}
	}
	if !slices.Equal(extents, []api.Extent{at(63, 2), at(66, 1)}) {
		t.Errorf("the extents after a change of the bitmap: %v", extents)
	}
	for i, b := range results(fresh()) {
		expect(t, "a result of equal arguments", b, api.OK, wanted[i], api.OK)
	}
}
