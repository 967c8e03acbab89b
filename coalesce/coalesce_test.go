package coalesce_test

import (
	"math"
	"reflect"
	"slices"
	"testing"

	"standby/api"
	"standby/coalesce"
	"standby/extent"
	"standby/image"
)

// random returns numbers from 0 to n - 1 that look random.
func random(seed uint32) func(n int) int {
	return func(n int) int {
		seed = seed*1664525 + 1013904223
		return int(seed>>8) % n
	}
}

// list are sectors with letters.
func list(letters string) []api.Sector {
	var l []api.Sector
	for _, c := range []byte(letters) {
		l = append(l, api.Sector{0, c, 0, 0, 0, 0, 0, c})
	}
	return l
}

// to is a write of letters.
func to(volume, start int, letters string) api.Write {
	return api.Write{Volume: volume, Start: start, Data: list(letters)}
}

// at is the extent with a Start and a Count.
func at(start, count int) api.Extent {
	return api.Extent{Start: start, Count: count}
}

// zeros is a write of zero sectors, which are contents like others.
func zeros(volume, start, count int) api.Write {
	return api.Write{Volume: volume, Start: start, Data: make([]api.Sector, count)}
}

// largest are the sizes that all writes that are placed fit.
func largest() []int {
	return []int{4096, 4096, 4096, 4096, 4096, 4096, 4096, 4096}
}

func sameWrite(a, b api.Write) bool {
	return a.Volume == b.Volume && a.Start == b.Start && slices.Equal(a.Data, b.Data)
}

func same(a, b []api.Write) bool {
	return slices.EqualFunc(a, b, sameWrite)
}

// expect reports a list or an error that is not the wanted one; beside an error the list has to be empty.
func expect(t *testing.T, what string, got []api.Write, err api.Errno, want []api.Write, code api.Errno) {
	t.Helper()
	if code != api.OK {
		want = nil
	}
	if err != code || !same(got, want) {
		t.Errorf("%s: got %v, %d, want %v, %d", what, got, err, want, code)
	}
}

// model is what writes to volumes of few sectors leave at each sector: the number of the last write that contains it, and the index of the sector in it.
type model map[[2]int][2]int

// modelOf applies writes one after another.
func modelOf(l []api.Write) model {
	m := model{}
	for n, w := range l {
		for i := range w.Data {
			m[[2]int{w.Volume, w.Start + i}] = [2]int{n, i}
		}
	}
	return m
}

// canonical is the canonical list with the effect of writes within 8 volumes of some sectors, by the definition.
func canonical(l []api.Write, sectors int) []api.Write {
	m := modelOf(l)
	var made []api.Write
	for v := range 8 {
		// A write is open as long as sector follows sector.
		open := false
		for s := range sectors {
			from, found := m[[2]int{v, s}]
			if found && !open {
				made = append(made, api.Write{Volume: v, Start: s})
			}
			open = found
			if found {
				made[len(made)-1].Data = append(made[len(made)-1].Data, l[from[0]].Data[from[1]])
			}
		}
	}
	return made
}

// spans are the places of all writes to two volumes of size sectors.
func spans(size int) []api.Write {
	var l []api.Write
	for v := range 2 {
		for start := range size {
			for count := 1; start+count <= size; count++ {
				l = append(l, zeros(v, start, count))
			}
		}
	}
	return l
}

// lists are all lists of at most n writes to two volumes of size sectors; all their contents are different.
func lists(n, size int) [][]api.Write {
	all := [][]api.Write{nil}
	for last := all; n > 0; n-- {
		var next [][]api.Write
		for _, l := range last {
			for _, span := range spans(size) {
				w := zeros(span.Volume, span.Start, len(span.Data))
				for i := range w.Data {
					w.Data[i] = api.Sector{byte(len(l) + 1), byte(i)}
				}
				next = append(next, append(slices.Clip(l), w))
			}
		}
		all, last = append(all, next...), next
	}
	return all
}

// canonicals are all canonical lists for two volumes of size sectors; their contents are different, and begin with a number.
func canonicals(size int, number byte) [][]api.Write {
	var all [][]api.Write
	for bits := range 1 << (2 * size) {
		var l []api.Write
		for i := range 2 * size {
			if bits>>i&1 == 1 {
				l = append(l, api.Write{Volume: i / size, Start: i % size, Data: []api.Sector{{number, byte(i)}}})
			}
		}
		all = append(all, canonical(l, size))
	}
	return all
}

// randomLists are lists of writes that are placed, some of them at the ends of volumes.
func randomLists() [][]api.Write {
	var all [][]api.Write
	for seed := range 60 {
		next := random(uint32(seed))
		var l []api.Write
		for n := range 1 + next(30) {
			count := 1 + next(6)
			starts := [3]int{next(20), 4096 - count - next(4), next(4097 - count)}
			w := zeros(7*next(2)+next(2)-next(2), starts[next(3)], count)
			w.Volume = min(max(w.Volume, 0), 7)
			for i := range w.Data {
				w.Data[i] = api.Sector{byte(next(3)), byte(n)}
			}
			l = append(l, w)
		}
		all = append(all, l)
	}
	return append(all, []api.Write{zeros(0, 0, 4096), zeros(7, 0, 4096), to(7, 4095, "a"), to(0, 0, "b")})
}

// misplaced are writes that do not fit the largest sizes, with their errors.
func misplaced() map[api.Errno][]api.Write {
	return map[api.Errno][]api.Write{
		api.ErrNone:  {to(-1, 0, "a"), to(8, 0, "a"), to(math.MaxInt, 0, "a"), to(math.MinInt, 0, "a"), to(8, -1, ""), to(-1, 4096, "")},
		api.ErrArg:   {to(0, 0, ""), to(7, 4095, ""), to(0, -1, ""), to(0, 4096, ""), to(3, math.MaxInt, ""), {}},
		api.ErrRange: {to(0, -1, "a"), to(0, -1, "ab"), to(0, 4096, "a"), to(7, 4095, "ab"), zeros(0, 0, 4097), zeros(0, 1, 4096), to(0, math.MaxInt, "a"), to(0, math.MaxInt-1, "abc"), to(0, math.MinInt, "a")},
	}
}

func TestExamples(t *testing.T) {
	folded, err := coalesce.Fold([]api.Write{to(0, 2, "ab"), to(0, 3, "c"), to(0, 4, "d")})
	expect(t, "example 1", folded, err, []api.Write{to(0, 2, "acd")}, api.OK)
	folded, err = coalesce.Fold([]api.Write{to(1, 5, "a"), to(0, 0, "b"), to(0, 2, "c")})
	expect(t, "example 2", folded, err, []api.Write{to(0, 0, "b"), to(0, 2, "c"), to(1, 5, "a")}, api.OK)
	merged, err := coalesce.Merge([]api.Write{to(0, 2, "ab")}, []api.Write{to(0, 1, "c")})
	expect(t, "example 3, Merge", merged, err, []api.Write{to(0, 1, "cab")}, api.OK)
	restricted, err := coalesce.Restrict(merged, 0, []api.Extent{at(2, 1), at(9, 1)})
	expect(t, "example 3, Restrict", restricted, err, []api.Write{to(0, 2, "a")}, api.OK)
}

func TestP221Check(t *testing.T) {
	for _, l := range lists(3, 3) {
		want := api.OK
		if !same(l, canonical(l, 3)) {
			want = api.ErrForm
		}
		for _, sizes := range [][]int{{3, 3}, {4, 4096, 1}, largest()} {
			if got := coalesce.Check(l, sizes); got != want {
				t.Errorf("Check of %v with the sizes %v: got %d, want %d", l, sizes, got, want)
			}
		}
	}
	for _, l := range canonicals(4, 1) {
		if got := coalesce.Check(l, []int{4, 4}); got != api.OK {
			t.Errorf("Check of %v: got %d", l, got)
		}
	}
}

func TestP221CheckErrors(t *testing.T) {
	good := []api.Write{to(0, 1, "ab"), to(0, 4, "c"), to(1, 0, "d")}
	for _, c := range []struct {
		what  string
		l     []api.Write
		sizes []int
		want  api.Errno
	}{
		{"no sizes", nil, nil, api.ErrMany},
		{"no sizes for writes", good, []int{}, api.ErrMany},
		{"nine sizes", good, slices.Repeat([]int{0}, 9), api.ErrMany},
		{"the size 0", nil, []int{4, 0}, api.ErrRange},
		{"the size 4097", []api.Write{{Volume: 9}}, []int{4, 4097}, api.ErrRange},
		{"a size below 0", []api.Write{{}}, []int{math.MinInt}, api.ErrRange},
		{"an ordinary list", good, []int{5, 1}, api.OK},
		{"a volume that is missing", good, []int{5}, api.ErrNone},
		{"the first volume ends early", good, []int{4, 1}, api.ErrRange},
		{"no writes", nil, []int{1}, api.OK},
		{"a touching write", []api.Write{to(0, 1, "ab"), to(0, 3, "c")}, []int{9}, api.ErrForm},
		{"a gap of one sector", []api.Write{to(0, 1, "ab"), to(0, 4, "c")}, []int{9}, api.OK},
		{"an overlapping write", []api.Write{to(0, 1, "ab"), to(0, 2, "c")}, []int{9}, api.ErrForm},
		{"the same write twice", []api.Write{to(0, 1, "ab"), to(0, 1, "ab")}, []int{9}, api.ErrForm},
		{"sectors in descending order", []api.Write{to(0, 5, "a"), to(0, 1, "b")}, []int{9}, api.ErrForm},
		{"volumes in descending order", []api.Write{to(1, 1, "a"), to(0, 5, "b")}, []int{9, 9}, api.ErrForm},
		{"a later volume from its first sector on", []api.Write{to(0, 5, "a"), to(1, 0, "b")}, []int{9, 9}, api.OK},
		{"an empty write before a wrong form", []api.Write{to(0, 5, "a"), to(0, 7, ""), to(0, 1, "b")}, []int{9}, api.ErrArg},
		{"a wrong form before an empty write", []api.Write{to(0, 5, "a"), to(0, 1, "b"), to(0, 7, "")}, []int{9}, api.ErrForm},
		{"one write with both errors", []api.Write{to(0, 5, "a"), to(0, 5, "")}, []int{9}, api.ErrArg},
		{"one write beyond the end, and not behind", []api.Write{to(0, 5, "a"), to(0, -1, "b")}, []int{9}, api.ErrRange},
		{"the whole of all volumes", []api.Write{zeros(0, 0, 4096), zeros(7, 0, 4096)}, largest(), api.OK},
	} {
		if got := coalesce.Check(c.l, c.sizes); got != c.want {
			t.Errorf("%s: got %d, want %d", c.what, got, c.want)
		}
	}
	for want, writes := range misplaced() {
		for _, w := range writes {
			for _, l := range [][]api.Write{{w}, {to(0, 0, "a"), w}, {w, to(9, 9, ""), to(0, -1, "a")}} {
				if got := coalesce.Check(l, largest()); got != want {
					t.Errorf("Check of %v: got %d, want %d", l, got, want)
				}
			}
		}
	}
}

func TestP221Fold(t *testing.T) {
	for _, l := range lists(3, 3) {
		got, err := coalesce.Fold(l)
		expect(t, "Fold", got, err, canonical(l, 3), api.OK)
	}
	for _, l := range randomLists() {
		got, err := coalesce.Fold(l)
		expect(t, "Fold of a random list", got, err, canonical(l, 4096), api.OK)
	}
	// A zero sector is a content like others.
	got, err := coalesce.Fold([]api.Write{to(1, 2, "abc"), zeros(1, 3, 1), zeros(1, 0, 1)})
	want := []api.Write{zeros(1, 0, 1), {Volume: 1, Start: 2, Data: []api.Sector{list("a")[0], {}, list("c")[0]}}}
	expect(t, "Fold of zeros", got, err, want, api.OK)
}

func TestP221FoldErrors(t *testing.T) {
	for want, writes := range misplaced() {
		for _, w := range writes {
			for _, l := range [][]api.Write{{w}, {to(1, 5, "a"), to(1, 5, "b"), w}, {w, to(8, 0, "a")}, {w, to(0, 0, "")}, {w, to(0, -1, "a")}} {
				got, err := coalesce.Fold(l)
				expect(t, "Fold of a write that is not placed", got, err, nil, want)
			}
		}
	}
}

func TestP221Merge(t *testing.T) {
	for _, a := range canonicals(4, 1) {
		for _, b := range canonicals(4, 2) {
			if len(a)+len(b) > 4 {
				continue
			}
			got, err := coalesce.Merge(a, b)
			expect(t, "Merge", got, err, canonical(slices.Concat(a, b), 4), api.OK)
		}
	}
	all := randomLists()
	for i := range all[1:] {
		a, b := canonical(all[i], 4096), canonical(all[i+1], 4096)
		got, err := coalesce.Merge(a, b)
		expect(t, "Merge of random lists", got, err, canonical(slices.Concat(a, b), 4096), api.OK)
	}
}

// wrongLists are lists that are not canonical for the largest sizes, with the errors of Check.
func wrongLists() map[api.Errno][][]api.Write {
	// Fold takes these.
	wrong := map[api.Errno][][]api.Write{api.ErrForm: {
		{to(0, 1, "a"), to(0, 2, "b")}, {to(0, 1, "a"), to(0, 1, "a")}, {to(0, 4, "a"), to(0, 1, "b")}, {to(1, 0, "a"), to(0, 3, "b")}, {to(0, 4, "a"), to(0, 1, "b"), to(8, 0, "")},
	}}
	for code, writes := range misplaced() {
		for _, w := range writes {
			wrong[code] = append(wrong[code], []api.Write{w}, []api.Write{to(0, 0, "a"), w}, []api.Write{w, to(0, 1, "a"), to(0, 1, "b")})
		}
	}
	return wrong
}

func TestP221MergeErrors(t *testing.T) {
	good := []api.Write{to(0, 1, "ab"), to(1, 0, "d")}
	for code, l := range wrongLists() {
		for _, x := range l {
			got, err := coalesce.Merge(x, good)
			expect(t, "Merge with a wrong first list", got, err, nil, code)
			got, err = coalesce.Merge(good, x)
			expect(t, "Merge with a wrong second list", got, err, nil, code)
			for _, others := range wrongLists() {
				got, err = coalesce.Merge(x, others[0])
				expect(t, "Merge of wrong lists", got, err, nil, code)
			}
		}
	}
	all, err := coalesce.Merge(nil, nil)
	expect(t, "Merge of nothing", all, err, nil, api.OK)
	all, err = coalesce.Merge([]api.Write{zeros(7, 0, 4096)}, []api.Write{to(7, 4095, "a")})
	want := []api.Write{zeros(7, 0, 4096)}
	want[0].Data[4095] = list("a")[0]
	expect(t, "Merge at the end of the last volume", all, err, want, api.OK)
}

// odd are writes anywhere, in no order.
func odd() []api.Write {
	return []api.Write{
		to(0, 2, "ab"), to(1, 2, "cd"), to(0, 3, "e"), to(0, 8, ""), to(0, 6, "f"), to(0, 5, "g"), to(-1, 4, "hi"), to(9, 4094, "klmn"), to(0, -2, "opqr"), to(0, 4095, "stu"),
		to(math.MaxInt, math.MaxInt, "vw"), to(math.MaxInt, math.MaxInt-1, "xyz"), to(math.MinInt, math.MinInt, "AB"), to(5, math.MinInt, "C"), to(5, math.MaxInt, "D"), to(5, -1, "EF"), to(5, 0, ""), to(6, -3, "GH"),
	}
}

func oddNumbers() []int {
	return []int{0, 1, 2, 3, 4, 5, 6, 7, 8, 9, -1, -2, -3, 4094, 4095, 4096, 4097, math.MaxInt, math.MaxInt - 1, math.MaxInt - 2, math.MinInt, math.MinInt + 1, math.MinInt + 2}
}

func TestP222Extents(t *testing.T) {
	all := append(lists(2, 3), randomLists()...)
	for i := range odd() {
		all = append(all, odd()[:i+1], odd()[i:])
	}
	for _, l := range all {
		for _, volume := range []int{0, 1, 2, 5, 6, 7, 9, -1, math.MaxInt, math.MinInt} {
			got := coalesce.Extents(l, volume)
			if err := extent.Check(got, api.MaxSectors); err != api.OK {
				t.Errorf("Extents of %v: got %v, which is not canonical", l, got)
			}
			set := map[int]bool{}
			for _, w := range l {
				for i := range w.Data {
					if s := w.Start + i; w.Volume == volume && w.Start < 5000 && s >= 0 && s < 4096 {
						set[s] = true
					}
				}
			}
			for s := range set {
				if !extent.Contains(got, s) {
					t.Errorf("Extents of %v for the volume %d lack %d", l, volume, s)
				}
			}
			if got := extent.Count(got); got != len(set) {
				t.Errorf("Extents of %v for the volume %d: got %d sectors, want %d", l, volume, got, len(set))
			}
		}
	}
}

// restricted is the restriction of a canonical list to sectors of volumes below a number, by the definition.
func restricted(l []api.Write, sectors int, keep func(volume, sector int) bool) []api.Write {
	var single []api.Write
	for _, w := range l {
		for i, s := range w.Data {
			if keep(w.Volume, w.Start+i) {
				single = append(single, api.Write{Volume: w.Volume, Start: w.Start + i, Data: []api.Sector{s}})
			}
		}
	}
	return canonical(single, sectors)
}

// keeps are lists of extents of all kinds.
func keeps() [][]api.Extent {
	return [][]api.Extent{
		nil, {at(0, 4096)}, {at(0, 1)}, {at(3, 1)}, {at(1, 2)}, {at(0, 1), at(2, 1)}, {at(0, 1), at(3, 9)},
		// Lists that are not canonical, and extents that are partly beyond all sectors, or contain nothing.
		{at(2, 1), at(0, 1)}, {at(1, 1), at(2, 1)}, {at(0, 2), at(1, 2)}, {at(3, 1), at(3, 1)}, {at(-2, 4)}, {at(2, 0)}, {at(2, -1)}, {at(-1, 1)}, {at(2, math.MaxInt)}, {at(math.MinInt, math.MaxInt)}, {at(4095, 3)}, {at(4096, 1), at(1, 1)}, {at(math.MaxInt, math.MaxInt)},
	}
}

func TestP222Restrict(t *testing.T) {
	check := func(l []api.Write, sectors, volume int, keep []api.Extent) {
		t.Helper()
		got, err := coalesce.Restrict(l, volume, keep)
		want := restricted(l, sectors, func(v, s int) bool { return v == volume && extent.Contains(keep, s) })
		expect(t, "Restrict", got, err, want, api.OK)
	}
	for _, l := range canonicals(4, 1) {
		for _, keep := range keeps() {
			for _, volume := range []int{0, 1, 2} {
				check(l, 4, volume, keep)
			}
		}
	}
	for _, l := range randomLists() {
		l = canonical(l, 4096)
		for _, keep := range keeps() {
			for _, volume := range []int{0, 6, 7, -1, 8, math.MaxInt, math.MinInt} {
				check(l, 4096, volume, keep)
			}
		}
	}
}

func TestP222RestrictErrors(t *testing.T) {
	for code, l := range wrongLists() {
		for _, x := range l {
			got, err := coalesce.Restrict(x, 0, []api.Extent{at(0, 4096)})
			expect(t, "Restrict of a wrong list", got, err, nil, code)
			got, err = coalesce.Restrict(x, 9, nil)
			expect(t, "Restrict of a wrong list to nothing", got, err, nil, code)
		}
	}
}

func TestP222Sectors(t *testing.T) {
	for _, l := range append(lists(3, 3), odd(), nil, []api.Write{{}, {Volume: -1}}, []api.Write{zeros(0, 0, 5000), zeros(0, 0, 5000)}) {
		want := 0
		for _, w := range l {
			for range w.Data {
				want++
			}
		}
		if got := coalesce.Sectors(l); got != want {
			t.Errorf("Sectors of %v: got %d, want %d", l, got, want)
		}
	}
}

func TestP222Lookup(t *testing.T) {
	check := func(l []api.Write, volume, sector int) {
		t.Helper()
		var want api.Sector
		found := false
		for _, w := range l {
			if w.Volume != volume {
				continue
			}
			for i, s := range w.Data {
				if w.Start <= math.MaxInt-i && w.Start+i == sector {
					want, found = s, true
				}
			}
		}
		if got, ok := coalesce.Lookup(l, volume, sector); got != want || ok != found {
			t.Errorf("Lookup of %d in the volume %d of %v: got %v, %t, want %v, %t", sector, volume, l, got, ok, want, found)
		}
	}
	for _, l := range lists(3, 3) {
		for volume := range 3 {
			for sector := -1; sector < 4; sector++ {
				check(l, volume, sector)
			}
		}
	}
	for i := range odd() {
		for _, volume := range []int{0, 1, 5, 6, 9, -1, math.MaxInt, math.MinInt} {
			for _, sector := range oddNumbers() {
				check(odd()[:i+1], volume, sector)
				check(odd()[i:], volume, sector)
			}
		}
	}
	check(nil, 0, 0)
	check([]api.Write{zeros(3, 1, 1)}, 3, 1)
}

// fold folds a list, and reports an error.
func fold(t *testing.T, l []api.Write) []api.Write {
	t.Helper()
	folded, err := coalesce.Fold(l)
	if err != api.OK {
		t.Fatalf("Fold of %v: got %d", l, err)
	}
	return folded
}

// merge merges two lists, and reports an error.
func merge(t *testing.T, a, b []api.Write) []api.Write {
	t.Helper()
	merged, err := coalesce.Merge(a, b)
	if err != api.OK {
		t.Fatalf("Merge of %v and %v: got %d", a, b, err)
	}
	return merged
}

// restrict restricts a list, and reports an error.
func restrict(t *testing.T, l []api.Write, volume int, keep []api.Extent) []api.Write {
	t.Helper()
	kept, err := coalesce.Restrict(l, volume, keep)
	if err != api.OK {
		t.Fatalf("Restrict of %v: got %d", l, err)
	}
	return kept
}

// scene is an image with the largest sizes whose sectors are not zero.
func scene() api.Image {
	var im api.Image
	for v := range 8 {
		l := make([]api.Sector, 4096)
		for i := range l {
			l[i] = api.Sector{9, byte(v), byte(i), byte(i >> 8)}
		}
		im = append(im, l)
	}
	return im
}

func TestP223Fold(t *testing.T) {
	before := scene()
	for _, l := range randomLists() {
		folded := fold(t, l)
		if err := coalesce.Check(folded, largest()); err != api.OK {
			t.Errorf("Check of a folded list: got %d", err)
		}
		expect(t, "Fold of a folded list", fold(t, folded), api.OK, folded, api.OK)
		if coalesce.Sectors(folded) > coalesce.Sectors(l) {
			t.Errorf("Fold of %v has more sectors: %v", l, folded)
		}
		a, _, err := image.Apply(before, l)
		b, _, code := image.Apply(before, folded)
		if err != api.OK || code != api.OK || !image.Same(a, b) {
			t.Errorf("Fold of %v changes images in another way", l)
		}
	}
	for _, l := range lists(2, 4) {
		if len(l) < 2 {
			continue
		}
		both := extent.Intersect(coalesce.Extents(l[:1], l[1].Volume), coalesce.Extents(l[1:], l[1].Volume))
		if len(both) == 0 {
			expect(t, "exchanged writes", fold(t, []api.Write{l[1], l[0]}), api.OK, fold(t, l), api.OK)
		}
	}
}

func TestP223Merge(t *testing.T) {
	all := randomLists()
	for i := range len(all) - 2 {
		a, b, c := fold(t, all[i]), fold(t, all[i+1]), fold(t, all[i+2])
		left, right := merge(t, merge(t, a, b), c), merge(t, a, merge(t, b, c))
		expect(t, "Merge in another order", left, api.OK, right, api.OK)
		expect(t, "Merge and Fold", left, api.OK, fold(t, slices.Concat(all[i], all[i+1], all[i+2])), api.OK)
		expect(t, "Merge with nothing", merge(t, a, nil), api.OK, a, api.OK)
		expect(t, "Merge of nothing", merge(t, nil, a), api.OK, a, api.OK)
		expect(t, "Merge with itself", merge(t, a, a), api.OK, a, api.OK)
	}
}

func TestP223Restrict(t *testing.T) {
	for i, l := range append(randomLists(), canonicals(4, 1)...) {
		l = fold(t, l)
		for k, keep := range keeps() {
			// Not every combination, for the sake of time.
			if (i+k)%3 > 0 {
				continue
			}
			var parts []api.Write
			for volume := range 8 {
				inside, outside := restrict(t, l, volume, keep), restrict(t, l, volume, extent.Complement(keep, api.MaxSectors))
				if got := coalesce.Extents(inside, volume); !slices.Equal(got, extent.Intersect(coalesce.Extents(l, volume), keep)) {
					t.Errorf("Restrict of %v to %v contains %v", l, keep, got)
				}
				parts = merge(t, parts, merge(t, inside, outside))
			}
			expect(t, "the restrictions of a list", parts, api.OK, l, api.OK)
		}
	}
}

// spoil changes everything that a value reaches, its spare capacity too.
func spoil(v reflect.Value) {
	switch v.Kind() {
	case reflect.Slice:
		for i := range v.Cap() {
			spoil(v.Slice(0, v.Cap()).Index(i))
		}
	case reflect.Array:
		for i := range v.Len() {
			spoil(v.Index(i))
		}
	case reflect.Struct:
		for i := range v.NumField() {
			spoil(v.Field(i))
		}
	case reflect.Int:
		v.SetInt(77)
	case reflect.Uint8:
		v.SetUint(77)
	}
}

// spare returns a copy of a list with one more element in its spare capacity.
func spare[T any](l []T, beyond T) []T {
	return append(slices.Clone(l), beyond)[:len(l)]
}

// arguments are what the functions are called with.
type arguments struct {
	loose, a, b []api.Write
	sizes       []int
	keep        []api.Extent
}

// padded is a list with elements in the spare capacity of it and of its contents.
func padded(l ...api.Write) []api.Write {
	for i, w := range l {
		l[i].Data = spare(w.Data, api.Sector{5})
	}
	return spare(l, to(3, 3, "z"))
}

// values are arguments with elements in their spare capacity.
func values() arguments {
	return arguments{
		loose: padded(to(1, 5, "ab"), to(0, 2, "c"), to(0, 3, "d"), to(1, 5, "e")),
		a:     padded(to(0, 1, "abc"), to(0, 6, "de"), to(2, 0, "f")),
		b:     padded(to(0, 4, "g"), to(1, 1, "hi"), to(2, 4, "k")),
		sizes: spare([]int{9, 9, 9}, 4),
		keep:  spare([]api.Extent{at(1, 1), at(0, 3), at(7, 4)}, at(2, 2)),
	}
}

// everything lists what arguments reach, their spare capacity too.
func (a arguments) everything() []any {
	l := []any{a.sizes[:cap(a.sizes)], a.keep[:cap(a.keep)]}
	for _, writes := range [][]api.Write{a.loose, a.a, a.b} {
		for _, w := range writes[:cap(writes)] {
			l = append(l, w.Volume, w.Start, w.Data[:cap(w.Data)])
		}
	}
	return l
}

// results are what the functions make of their arguments.
func results(t *testing.T, a arguments) []any {
	t.Helper()
	if err := coalesce.Check(a.a, a.sizes); err != api.OK {
		t.Fatalf("Check: got %d", err)
	}
	folded, same := fold(t, a.loose), fold(t, a.a)
	merged, alone := merge(t, a.a, a.b), merge(t, a.a, nil)
	kept := restrict(t, a.a, 0, a.keep)
	extents := coalesce.Extents(a.a, 0)
	coalesce.Sectors(a.loose)
	coalesce.Lookup(a.loose, 1, 5)
	return []any{&folded, &same, &merged, &alone, &kept, &extents}
}

// slicesOf returns all lists that a value reaches.
func slicesOf(v reflect.Value) []reflect.Value {
	var l []reflect.Value
	switch v.Kind() {
	case reflect.Slice:
		if v.Cap() > 0 {
			l = append(l, v)
		}
		for i := range v.Len() {
			l = append(l, slicesOf(v.Index(i))...)
		}
	case reflect.Struct:
		for i := range v.NumField() {
			l = append(l, slicesOf(v.Field(i))...)
		}
	}
	return l
}

// overlap reports whether two lists share memory.
func overlap(a, b reflect.Value) bool {
	size := func(v reflect.Value) uintptr { return uintptr(v.Cap()) * v.Type().Elem().Size() }
	return a.Pointer() < b.Pointer()+size(b) && b.Pointer() < a.Pointer()+size(a)
}

func TestValues(t *testing.T) {
	a := values()
	got := results(t, a)
	if !reflect.DeepEqual(a.everything(), values().everything()) {
		t.Error("the arguments are modified")
	}
	var all []reflect.Value
	for _, x := range got {
		all = append(all, slicesOf(reflect.ValueOf(x).Elem())...)
	}
	for i, v := range all {
		for _, w := range all[:i] {
			if overlap(v, w) {
				t.Errorf("two lists of the results share memory: %v, %v", v, w)
			}
		}
	}
	want := results(t, values())
	for _, argument := range []any{&a.loose, &a.a, &a.b, &a.sizes, &a.keep} {
		spoil(reflect.ValueOf(argument).Elem())
	}
	if !reflect.DeepEqual(got, want) {
		t.Error("the results have changed with the arguments")
	}
	for i := range got {
		spoil(reflect.ValueOf(got[i]).Elem())
	}
	if again := results(t, values()); !reflect.DeepEqual(again, want) {
		t.Error("the results have changed with earlier ones")
	}
}
