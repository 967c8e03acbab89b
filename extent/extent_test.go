package extent_test

import (
	"math"
	"slices"
	"testing"

	"standby/api"
	"standby/extent"
)

// at is the extent with a Start and a Count.
func at(start, count int) api.Extent {
	return api.Extent{Start: start, Count: count}
}

// list is the list of extents with the given pairs of Start and Count.
func list(numbers ...int) []api.Extent {
	var l []api.Extent
	for i := 0; i+1 < len(numbers); i += 2 {
		l = append(l, at(numbers[i], numbers[i+1]))
	}
	return l
}

// member decides by the definition whether a sector is in the set of a list.
func member(l []api.Extent, sector int) bool {
	for _, e := range l {
		// The difference of a sector and a Start that is not greater fits into a word without a sign.
		if e.Count > 0 && sector >= e.Start && uint64(sector)-uint64(e.Start) < uint64(e.Count) {
			return sector >= 0 && sector < api.MaxSectors
		}
	}
	return false
}

// set is the set of a list, sector by sector.
func set(l []api.Extent) []bool {
	s := make([]bool, api.MaxSectors)
	for i := range s {
		s[i] = member(l, i)
	}
	return s
}

// listed is the canonical list of the sectors below size for which in holds.
func listed(size int, in func(int) bool) []api.Extent {
	var l []api.Extent
	for i := 0; i < size; i++ {
		switch {
		case !in(i):
		case i > 0 && in(i-1):
			l[len(l)-1].Count++
		default:
			l = append(l, at(i, 1))
		}
	}
	return l
}

func size(s []bool) int {
	n := 0
	for _, in := range s {
		if in {
			n++
		}
	}
	return n
}

func same(t *testing.T, what string, got, want []api.Extent) {
	t.Helper()
	if !slices.Equal(got, want) {
		t.Errorf("%s: got %v, want %v", what, got, want)
	}
}

func code(t *testing.T, what string, got, want api.Errno) {
	t.Helper()
	if got != want {
		t.Errorf("%s: got the error %d, want %d", what, got, want)
	}
}

// samples are lists of all kinds: empty, canonical, overlapping, adjacent, unordered, outside of all sectors, and with the greatest and least numbers.
func samples() [][]api.Extent {
	low, high := math.MinInt, math.MaxInt
	l := [][]api.Extent{
		nil,
		{},
		list(0, 1),
		list(0, 4096),
		list(4095, 1),
		list(4095, 2),
		list(4096, 1),
		list(4096, 0),
		list(5, 3, 0, 2, 7, 4),
		list(0, 2, 2, 1),
		list(2, 1, 0, 2),
		list(0, 2, 3, 1),
		list(0, 10, 3, 2),
		list(3, 2, 0, 10),
		list(3, 2, 3, 2, 3, 2),
		list(0, 5, 10, 2),
		list(0, 4, 10, 4),
		list(2, 10),
		list(-3, 5),
		list(-3, 3),
		list(-3, 2, 7, 1),
		list(-1, 1, 0, 1),
		list(9, 0),
		list(9, -1),
		list(9, -5, 9, 1, 9, 0),
		list(0, high),
		list(1, high),
		list(4000, high),
		list(high, high),
		list(high, 1),
		list(-1, high),
		list(-high, high),
		list(-high, high, 4094, 1),
		list(low, high),
		list(low, low),
		list(low, -1),
		list(-2, low),
		list(low, 1),
		list(high, low),
		list(0, low),
		list(-5, high, low, high, 4090, 3),
		list(1, 62, 64, 64, 129, 1),
		list(4093, 1, 4091, 1, 4095, 1),
	}
	seed := uint32(7)
	random := func(n int) int {
		seed = seed*1664525 + 1013904223
		return int(seed>>8) % n
	}
	for range 24 {
		var some []api.Extent
		for range 1 + random(9) {
			some = append(some, at(random(60)-5, random(12)-1))
		}
		if random(3) == 0 {
			some = append(some, at(4060+random(40), random(40)))
		}
		l = append(l, some)
	}
	return l
}

// small are all lists of at most three extents with small numbers.
func small() [][]api.Extent {
	l := [][]api.Extent{nil}
	for i := 0; i < len(l); i++ {
		if len(l[i]) == 3 {
			continue
		}
		for start := -1; start <= 4; start++ {
			for count := -1; count <= 3; count++ {
				l = append(l, append(slices.Clone(l[i]), at(start, count)))
			}
		}
	}
	return l
}

func TestP11CheckTable(t *testing.T) {
	example := list(0, 2, 5, 6)
	for _, x := range []struct {
		l    []api.Extent
		size int
		want api.Errno
	}{
		{example, 11, api.OK},
		{example, 10, api.ErrRange},
		{list(0, 2, 2, 1), 11, api.ErrForm},
		{nil, 0, api.OK},
		{nil, 4096, api.OK},
		{nil, -1, api.ErrRange},
		{nil, 4097, api.ErrRange},
		{nil, math.MinInt, api.ErrRange},
		{nil, math.MaxInt, api.ErrRange},
		{list(0, 4096), 4096, api.OK},
		{list(0, 4096), 4095, api.ErrRange},
		{list(0, 4097), 4096, api.ErrRange},
		{list(4095, 1), 4096, api.OK},
		{list(4096, 1), 4096, api.ErrRange},
		{list(0, 1, 2, 1), 3, api.OK},
		{list(0, 1, 1, 1), 3, api.ErrForm},
		{list(0, 2, 1, 1), 3, api.ErrForm},
		{list(2, 1, 0, 1), 3, api.ErrForm},
		{list(1, 1, 1, 1), 3, api.ErrForm},
		// The size is checked before the list.
		{list(0, 0), -1, api.ErrRange},
		{list(0, 0), 4097, api.ErrRange},
		// The Count is checked before the sectors, and these before the order.
		{list(-1, 0), 4, api.ErrArg},
		{list(9, -1), 4, api.ErrArg},
		{list(2, 1, 1, 0), 4, api.ErrArg},
		{list(2, 1, -1, 1), 4, api.ErrRange},
		{list(2, 1, 1, 4), 4, api.ErrRange},
		{list(2, 1, 1, 3), 4, api.ErrForm},
		// The first extent with an error decides.
		{list(0, 5, 1, 0), 4, api.ErrRange},
		{list(0, 2, 1, 1, 3, 0), 4, api.ErrForm},
		{list(0, 2, 1, 1, 3, 9), 4, api.ErrForm},
		{list(0, 1, 3, 0, -1, 1), 4, api.ErrArg},
		// Sums that are greater than the greatest int.
		{list(1, math.MaxInt), 4096, api.ErrRange},
		{list(math.MaxInt, math.MaxInt), 4096, api.ErrRange},
		{list(math.MinInt, math.MaxInt), 4096, api.ErrRange},
		{list(0, math.MinInt), 4096, api.ErrArg},
		{list(0, 1, math.MaxInt, 1), 4096, api.ErrRange},
	} {
		if got := extent.Check(x.l, x.size); got != x.want {
			t.Errorf("Check(%v, %d): got %d, want %d", x.l, x.size, got, x.want)
		}
	}
}

// checked is the result of Check by its definition, for small numbers.
func checked(l []api.Extent, size int) api.Errno {
	behind := -1
	for _, e := range l {
		last := e.Start + e.Count - 1
		switch {
		case e.Count < 1:
			return api.ErrArg
		case e.Start < 0 || last >= size:
			return api.ErrRange
		case behind >= 0 && e.Start < behind+2:
			return api.ErrForm
		}
		behind = last
	}
	return api.OK
}

func TestP11CheckSmall(t *testing.T) {
	for _, l := range small() {
		for size := range 7 {
			if got, want := extent.Check(l, size), checked(l, size); got != want {
				t.Fatalf("Check(%v, %d): got %d, want %d", l, size, got, want)
			}
		}
	}
}

func TestP11NormalizeTable(t *testing.T) {
	for _, x := range []struct {
		l, want []api.Extent
		err     api.Errno
	}{
		{list(5, 3, 0, 2, 7, 4), list(0, 2, 5, 6), api.OK},
		{nil, nil, api.OK},
		{list(0, 4096), list(0, 4096), api.OK},
		{list(0, 2048, 2048, 2048), list(0, 4096), api.OK},
		{list(4095, 1), list(4095, 1), api.OK},
		{list(4095, 1, 4094, 1, 0, 1), list(0, 1, 4094, 2), api.OK},
		{list(3, 1, 1, 1), list(1, 1, 3, 1), api.OK},
		{list(1, 9, 3, 1), list(1, 9), api.OK},
		{list(3, 1, 3, 1), list(3, 1), api.OK},
		// A Count of 0 is left out, wherever it begins.
		{list(9, 0), nil, api.OK},
		{list(-9, 0, 4096, 0, 4097, 0, math.MinInt, 0, math.MaxInt, 0), nil, api.OK},
		{list(1, 1, 2, 0, 3, 1), list(1, 1, 3, 1), api.OK},
		{list(-3, 5), nil, api.ErrRange},
		{list(-1, 1), nil, api.ErrRange},
		{list(4095, 2), nil, api.ErrRange},
		{list(4096, 1), nil, api.ErrRange},
		{list(0, 4097), nil, api.ErrRange},
		{list(0, -1), nil, api.ErrArg},
		{list(-9, -1), nil, api.ErrArg},
		{list(9999, -1), nil, api.ErrArg},
		{list(1, 1, 3, -1), nil, api.ErrArg},
		// The first extent with an error decides.
		{list(0, -1, -1, 1), nil, api.ErrArg},
		{list(-1, 1, 0, -1), nil, api.ErrRange},
		// Sums that are greater than the greatest int.
		{list(1, math.MaxInt), nil, api.ErrRange},
		{list(math.MaxInt, 1), nil, api.ErrRange},
		{list(math.MaxInt, math.MaxInt), nil, api.ErrRange},
		{list(math.MinInt, math.MaxInt), nil, api.ErrRange},
		{list(math.MaxInt, math.MinInt), nil, api.ErrArg},
	} {
		got, err := extent.Normalize(x.l)
		if err != x.err || !slices.Equal(got, x.want) {
			t.Errorf("Normalize(%v): got %v, %d, want %v, %d", x.l, got, err, x.want, x.err)
		}
	}
}

func TestP11NormalizeSmall(t *testing.T) {
	for _, l := range small() {
		want, code := listed(12, func(i int) bool { return member(l, i) }), api.OK
		for _, e := range l {
			if e.Count < 0 {
				want, code = nil, api.ErrArg
				break
			}
			if e.Count > 0 && e.Start < 0 {
				want, code = nil, api.ErrRange
				break
			}
		}
		if got, err := extent.Normalize(l); err != code || !slices.Equal(got, want) {
			t.Fatalf("Normalize(%v): got %v, %d, want %v, %d", l, got, err, want, code)
		}
	}
}

func TestP11Split(t *testing.T) {
	for _, x := range []struct {
		l    []api.Extent
		most int
		want []api.Extent
	}{
		{list(0, 5, 10, 2), 2, list(0, 2, 2, 2, 4, 1, 10, 2)},
		{list(0, 6), 3, list(0, 3, 3, 3)},
		{list(0, 6), 6, list(0, 6)},
		{list(0, 6), 5, list(0, 5, 5, 1)},
		{list(0, 6), 7, list(0, 6)},
		{list(3, 3), 1, list(3, 1, 4, 1, 5, 1)},
		{list(3, 3, 9, 1), math.MaxInt, list(3, 3, 9, 1)},
		{nil, 1, nil},
		// The pieces are those of the canonical list, whatever the list is.
		{list(2, 3, 0, 2, 1, 2), 2, list(0, 2, 2, 2, 4, 1)},
		{list(0, 1, 1, 1, 2, 1), 2, list(0, 2, 2, 1)},
		{list(-3, 5, 9, -1, 8, 0), 4, list(0, 2)},
		{list(4090, math.MaxInt), 4, list(4090, 4, 4094, 2)},
	} {
		got, err := extent.Split(x.l, x.most)
		code(t, "Split", err, api.OK)
		same(t, "Split", got, x.want)
	}
	for _, most := range []int{0, -1, math.MinInt} {
		for _, l := range [][]api.Extent{nil, list(0, 5), list(0, -1)} {
			got, err := extent.Split(l, most)
			code(t, "Split without a piece", err, api.ErrArg)
			same(t, "Split without a piece", got, nil)
		}
	}
}

func TestP11SplitSamples(t *testing.T) {
	for _, l := range samples() {
		for _, most := range []int{1, 2, 7, 64, 4095, 4096, 4097, math.MaxInt} {
			var want []api.Extent
			for _, e := range listed(api.MaxSectors, func(i int) bool { return member(l, i) }) {
				for e.Count > most {
					want = append(want, at(e.Start, most))
					e = at(e.Start+most, e.Count-most)
				}
				want = append(want, e)
			}
			got, err := extent.Split(l, most)
			if err != api.OK || !slices.Equal(got, want) {
				t.Errorf("Split(%v, %d): got %v, %d, want %v", l, most, got, err, want)
			}
		}
	}
}

func TestP12Examples(t *testing.T) {
	same(t, "a union of adjacent extents", extent.Union(list(0, 2), list(2, 1)), list(0, 3))
	same(t, "a hole", extent.Subtract(list(0, 10), list(3, 2)), list(0, 3, 5, 5))
	same(t, "a complement", extent.Complement(list(3, 2), 8), list(0, 3, 5, 3))
	if n := extent.Count(list(-3, 5)); n != 2 {
		t.Errorf("an extent before 0: got %d sectors, want 2", n)
	}
	same(t, "adjacent intersections", extent.Intersect(list(0, 4), list(0, 2, 2, 2)), list(0, 4))
	same(t, "the difference of a list and itself", extent.Subtract(list(3, 4), list(3, 4)), nil)
	same(t, "a huge extent", extent.Union(list(4000, math.MaxInt), list(-5, 6)), list(0, 1, 4000, 96))
}

func TestP12Pairs(t *testing.T) {
	lists := samples()
	sets := make([][]bool, len(lists))
	for i, l := range lists {
		sets[i] = set(l)
	}
	for i, a := range lists {
		for k, b := range lists {
			x, y := sets[i], sets[k]
			for what, both := range map[string]struct{ got, want []api.Extent }{
				"Union":     {extent.Union(a, b), listed(api.MaxSectors, func(s int) bool { return x[s] || y[s] })},
				"Intersect": {extent.Intersect(a, b), listed(api.MaxSectors, func(s int) bool { return x[s] && y[s] })},
				"Subtract":  {extent.Subtract(a, b), listed(api.MaxSectors, func(s int) bool { return x[s] && !y[s] })},
			} {
				if !slices.Equal(both.got, both.want) {
					t.Errorf("%s(%v, %v): got %v, want %v", what, a, b, both.got, both.want)
				}
			}
		}
	}
}

func TestP12Complement(t *testing.T) {
	for _, l := range samples() {
		s := set(l)
		for _, n := range []int{math.MinInt, -1, 0, 1, 2, 3, 8, 64, 4095, 4096, 4097, math.MaxInt} {
			within := max(0, min(n, api.MaxSectors))
			want := listed(within, func(i int) bool { return !s[i] })
			if got := extent.Complement(l, n); !slices.Equal(got, want) {
				t.Errorf("Complement(%v, %d): got %v, want %v", l, n, got, want)
			}
		}
	}
}

func TestP12ContainsAndCount(t *testing.T) {
	for _, l := range samples() {
		s := set(l)
		for i, want := range s {
			if got := extent.Contains(l, i); got != want {
				t.Fatalf("Contains(%v, %d): got %v, want %v", l, i, got, want)
			}
		}
		for _, i := range []int{math.MinInt, -3, -1, 4096, 4097, math.MaxInt - 1, math.MaxInt} {
			if extent.Contains(l, i) {
				t.Errorf("Contains(%v, %d): got a sector that no volume has", l, i)
			}
		}
		if got, want := extent.Count(l), size(s); got != want {
			t.Errorf("Count(%v): got %d, want %d", l, got, want)
		}
	}
}

func TestP13Canonical(t *testing.T) {
	lists := samples()
	for i, a := range lists {
		b := lists[(i*5+3)%len(lists)]
		normal, err := extent.Normalize(a)
		if err != api.OK && normal != nil {
			t.Errorf("Normalize(%v): got %v beside an error", a, normal)
		}
		for _, l := range [][]api.Extent{normal, extent.Union(a, b), extent.Intersect(a, b), extent.Subtract(a, b), extent.Complement(a, 4000)} {
			code(t, "Check of a result", extent.Check(l, api.MaxSectors), api.OK)
			again, err := extent.Normalize(l)
			code(t, "Normalize of a result", err, api.OK)
			same(t, "the normal form of a result", again, l)
		}
	}
}

func TestP13Laws(t *testing.T) {
	lists := samples()
	for i, a := range lists {
		b := lists[(i*7+1)%len(lists)]
		union, common, rest := extent.Union(a, b), extent.Intersect(a, b), extent.Subtract(a, b)
		for s := -2; s < api.MaxSectors+2; s++ {
			inA, inB := extent.Contains(a, s), extent.Contains(b, s)
			if extent.Contains(union, s) != (inA || inB) || extent.Contains(common, s) != (inA && inB) || extent.Contains(rest, s) != (inA && !inB) {
				t.Fatalf("sector %d of %v and %v: in the union %v, the intersection %v, the difference %v", s, a, b, union, common, rest)
			}
		}
		if extent.Count(union)+extent.Count(common) != extent.Count(a)+extent.Count(b) {
			t.Errorf("%v and %v: the numbers of sectors do not add up", a, b)
		}
		for _, n := range []int{-1, 0, 5, 70, 4096, 9999} {
			outside := extent.Intersect(extent.Complement(a, n), extent.Complement(b, n))
			same(t, "the complement of a union", extent.Complement(union, n), outside)
		}
	}
}

func TestP13Pieces(t *testing.T) {
	for _, l := range samples() {
		for _, most := range []int{1, 3, 64, 5000} {
			pieces, _ := extent.Split(l, most)
			next, n := 0, 0
			for _, p := range pieces {
				if p.Count < 1 || p.Count > most || p.Start < next {
					t.Fatalf("Split(%v, %d): %v is too long, empty, or not behind the piece before it", l, most, p)
				}
				next, n = p.Start+p.Count, n+p.Count
			}
			if n != extent.Count(l) {
				t.Errorf("Split(%v, %d): got %d sectors, want %d", l, most, n, extent.Count(l))
			}
			same(t, "the pieces together", extent.Union(pieces, nil), extent.Union(l, nil))
		}
	}
}

// results are the lists that all functions make of two lists.
func results(a, b []api.Extent) [][]api.Extent {
	extent.Check(a, 4096)
	extent.Contains(a, 1)
	extent.Count(a)
	normal, _ := extent.Normalize(a)
	pieces, _ := extent.Split(a, 3)
	return [][]api.Extent{normal, pieces, extent.Union(a, b), extent.Intersect(a, b), extent.Subtract(a, b), extent.Complement(a, 100)}
}

func TestValues(t *testing.T) {
	for _, x := range [][2][]api.Extent{
		{list(0, 2, 5, 6), list(1, 3)},
		{list(5, 3, 0, 2, 7, 4), list(2, 1, 1, 1)},
		{list(0, 2, 5, 6), nil},
		{nil, list(0, 2)},
	} {
		a, b := append(slices.Clone(x[0]), at(1, 1), at(-7, 9)), append(slices.Clone(x[1]), at(1, 1), at(-7, 9))
		wholeA, wholeB := slices.Clone(a), slices.Clone(b)
		// The last two extents are the spare capacity of the arguments.
		first := results(a[:len(a)-2], b[:len(b)-2])
		if !slices.Equal(a, wholeA) || !slices.Equal(b, wholeB) {
			t.Errorf("the arguments %v are modified: %v, %v", x, a, b)
		}
		wanted := results(x[0], x[1])
		for i := range a {
			a[i] = at(77, 77)
		}
		for i := range b {
			b[i] = at(77, 77)
		}
		for i, l := range first {
			same(t, "a result after a change of the arguments", l, wanted[i])
			for k := range l[:cap(l)] {
				l[:cap(l)][k] = at(88, 88)
			}
		}
		for i, l := range results(x[0], x[1]) {
			same(t, "a result after a change of an earlier one", l, wanted[i])
		}
	}
}
