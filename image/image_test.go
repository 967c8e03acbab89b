package image_test

import (
	"encoding/binary"
	"hash/fnv"
	"math"
	"reflect"
	"slices"
	"testing"

	"standby/api"
	"standby/extent"
	"standby/image"
)

// at is the extent with a Start and a Count.
func at(start, count int) api.Extent {
	return api.Extent{Start: start, Count: count}
}

// sectors are those with the characters of a text as their first bytes; 0 is a zero sector.
func sectors(text string) []api.Sector {
	var l []api.Sector
	for _, c := range []byte(text) {
		l = append(l, api.Sector{c - '0'})
	}
	return l
}

// picture is the image with a volume for each text.
func picture(texts ...string) api.Image {
	var im api.Image
	for _, text := range texts {
		im = append(im, sectors(text))
	}
	return im
}

// sized is an image of some sizes whose sectors are all different, and not zero.
func sized(sizes ...int) api.Image {
	var im api.Image
	for v, size := range sizes {
		var l []api.Sector
		for i := range size {
			l = append(l, api.Sector{byte(i), byte(i >> 8), byte(v), 7: 1})
		}
		im = append(im, l)
	}
	return im
}

// write is the write of the sectors of a text.
func write(volume, start int, text string) api.Write {
	return api.Write{Volume: volume, Start: start, Data: sectors(text)}
}

// random returns numbers from 0 to n - 1 that look random.
func random(seed uint32) func(n int) int {
	return func(n int) int {
		seed = seed*1664525 + 1013904223
		return int(seed>>8) % n
	}
}

// randomImage has sectors of few different contents, so that images of one kind agree at many of them.
func randomImage(next func(int) int, sizes []int) api.Image {
	var im api.Image
	for _, size := range sizes {
		l := make([]api.Sector, size)
		for i := range l {
			l[i][next(api.SectorSize)] = byte(next(2))
		}
		im = append(im, l)
	}
	return im
}

// randomWrites fit some sizes, and may overlap.
func randomWrites(next func(int) int, sizes []int, n int) []api.Write {
	var l []api.Write
	for i := range n {
		w := api.Write{Volume: next(len(sizes))}
		w.Start = next(sizes[w.Volume])
		for range 1 + next(sizes[w.Volume]-w.Start) {
			w.Data = append(w.Data, api.Sector{1: byte(i), 2: byte(next(3))})
		}
		l = append(l, w)
	}
	return l
}

func someSizes() [][]int {
	return [][]int{{1}, {4, 2}, {2, 4}, {63, 64, 65}, {1, 2, 3, 4, 5, 6, 7, 8}, {4096}, {1, 4096, 1}}
}

// wrong is an image that is not correct, with the error of Check.
type wrong struct {
	im  api.Image
	err api.Errno
}

func wrongImages() []wrong {
	return []wrong{
		{nil, api.ErrMany},
		{api.Image{}, api.ErrMany},
		{sized(1, 1, 1, 1, 1, 1, 1, 1, 1), api.ErrMany},
		{make(api.Image, 9), api.ErrMany},
		{sized(4097, 1, 1, 1, 1, 1, 1, 1, 1), api.ErrMany},
		{make(api.Image, 5000), api.ErrMany},
		{api.Image{nil}, api.ErrRange},
		{sized(0), api.ErrRange},
		{sized(4097), api.ErrRange},
		{sized(4, 0), api.ErrRange},
		{sized(0, 4), api.ErrRange},
		{sized(4, 4097, 4), api.ErrRange},
		{make(api.Image, 8), api.ErrRange},
	}
}

// same compares images by the definition.
func same(a, b api.Image) bool {
	if len(a) != len(b) {
		return false
	}
	for v := range a {
		if string(bytesOf(a[v])) != string(bytesOf(b[v])) {
			return false
		}
	}
	return true
}

// bytesOf are the bytes of sectors, one behind the other.
func bytesOf(l []api.Sector) []byte {
	var b []byte
	for _, s := range l {
		b = append(b, s[:]...)
	}
	return b
}

// expect reports an image or an error that is not the wanted one; beside an error the image has to be empty.
func expect(t *testing.T, what string, got api.Image, err api.Errno, want api.Image, code api.Errno) {
	t.Helper()
	if code != api.OK {
		want = nil
	}
	if err != code || !same(got, want) {
		t.Errorf("%s: got %v, %d, want %v, %d", what, got, err, want, code)
	}
}

// expectSectors does the same for sectors.
func expectSectors(t *testing.T, what string, got []api.Sector, err api.Errno, want []api.Sector, code api.Errno) {
	t.Helper()
	if code != api.OK {
		want = nil
	}
	if err != code || !slices.Equal(got, want) {
		t.Errorf("%s: got %v, %d, want %v, %d", what, got, err, want, code)
	}
}

// apply returns the image after writes, and reports an error.
func apply(t *testing.T, im api.Image, l []api.Write) api.Image {
	t.Helper()
	after, index, err := image.Apply(im, l)
	if index != 0 || err != api.OK {
		t.Fatalf("Apply: got the index %d, the error %d", index, err)
	}
	return after
}

// differ returns where two images differ, and reports an error.
func differ(t *testing.T, a, b api.Image) [][]api.Extent {
	t.Helper()
	l, err := image.Differ(a, b)
	if err != api.OK || len(l) != len(a) {
		t.Fatalf("Differ: got %v, %d for %d volumes", l, err, len(a))
	}
	return l
}

// patch returns the patch from one image to another, and reports an error.
func patch(t *testing.T, from, to api.Image) []api.Write {
	t.Helper()
	l, err := image.Patch(from, to)
	if err != api.OK {
		t.Fatalf("Patch: got %d", err)
	}
	return l
}

func equalWrites(a, b []api.Write) bool {
	return slices.EqualFunc(a, b, func(x, y api.Write) bool {
		return x.Volume == y.Volume && x.Start == y.Start && slices.Equal(x.Data, y.Data)
	})
}

func TestP71New(t *testing.T) {
	for _, sizes := range append(someSizes(), slices.Repeat([]int{4096}, 8), slices.Repeat([]int{1}, 8)) {
		var want api.Image
		for _, size := range sizes {
			want = append(want, make([]api.Sector, size))
		}
		got, err := image.New(sizes)
		expect(t, "New", got, err, want, api.OK)
		if code := image.Check(got); code != api.OK {
			t.Errorf("Check of a new image with the sizes %v: got %d", sizes, code)
		}
	}
	for _, c := range []struct {
		sizes []int
		want  api.Errno
	}{
		{nil, api.ErrMany},
		{[]int{}, api.ErrMany},
		{slices.Repeat([]int{1}, 9), api.ErrMany},
		// The number of sizes is checked before the sizes.
		{slices.Repeat([]int{-1}, 9), api.ErrMany},
		{slices.Repeat([]int{math.MaxInt}, 5000), api.ErrMany},
		{[]int{0}, api.ErrRange},
		{[]int{-1}, api.ErrRange},
		{[]int{4097}, api.ErrRange},
		{[]int{math.MaxInt}, api.ErrRange},
		{[]int{math.MinInt}, api.ErrRange},
		{[]int{4, 2, 0}, api.ErrRange},
		{[]int{4097, 2}, api.ErrRange},
		{[]int{4, -4, 4}, api.ErrRange},
		{[]int{1, 1, 1, 1, 1, 1, 1, 4097}, api.ErrRange},
	} {
		got, err := image.New(c.sizes)
		expect(t, "New of wrong sizes", got, err, nil, c.want)
	}
}

func TestP71Check(t *testing.T) {
	for _, sizes := range append(someSizes(), slices.Repeat([]int{4096}, 8)) {
		if err := image.Check(sized(sizes...)); err != api.OK {
			t.Errorf("Check of an image with the sizes %v: got %d", sizes, err)
		}
	}
	for i, w := range wrongImages() {
		if err := image.Check(w.im); err != w.err {
			t.Errorf("Check of the wrong image %d: got %d, want %d", i, err, w.err)
		}
	}
}

// misfit is a write, and the error of Fits for it and an image with the sizes 4 and 2.
type misfit struct {
	w   api.Write
	err api.Errno
}

func misfits() []misfit {
	return []misfit{
		{write(0, 2, "123"), api.ErrRange},
		{write(2, 0, "1"), api.ErrNone},
		{write(1, 0, ""), api.ErrArg},
		{write(-1, 0, "1"), api.ErrNone},
		{write(8, 0, "1"), api.ErrNone},
		{write(math.MaxInt, 0, "1"), api.ErrNone},
		{write(math.MinInt, 0, "1"), api.ErrNone},
		// The volume is checked first, then the data, then the sectors.
		{write(2, 9, ""), api.ErrNone},
		{write(-1, -1, ""), api.ErrNone},
		{write(0, -1, ""), api.ErrArg},
		{write(0, 4, ""), api.ErrArg},
		{write(0, math.MaxInt, ""), api.ErrArg},
		{write(0, -1, "1"), api.ErrRange},
		{write(0, -1, "12"), api.ErrRange},
		{write(0, 4, "1"), api.ErrRange},
		{write(0, 5, "1"), api.ErrRange},
		{write(0, 0, "12345"), api.ErrRange},
		{write(1, 1, "12"), api.ErrRange},
		{write(1, 2, "1"), api.ErrRange},
		{write(1, 3, "1"), api.ErrRange},
		{write(0, math.MaxInt, "1"), api.ErrRange},
		{write(0, math.MaxInt-1, "123"), api.ErrRange},
		{write(0, math.MinInt, "1"), api.ErrRange},
		{write(0, math.MinInt, "12345"), api.ErrRange},
	}
}

func TestP71Fits(t *testing.T) {
	im := picture("0000", "00")
	for _, w := range []api.Write{
		write(0, 0, "1"), write(0, 3, "1"), write(0, 0, "1234"), write(0, 1, "123"), write(1, 0, "12"), write(1, 1, "1"), write(0, 2, "00"),
	} {
		if err := image.Fits(im, w); err != api.OK {
			t.Errorf("Fits(%v): got %d", w, err)
		}
	}
	for _, m := range misfits() {
		if err := image.Fits(im, m.w); err != m.err {
			t.Errorf("Fits(%v): got %d, want %d", m.w, err, m.err)
		}
	}
	last := sized(1, 1, 1, 1, 1, 1, 1, 4096)
	if err := image.Fits(last, api.Write{Volume: 7, Data: make([]api.Sector, 4096)}); err != api.OK {
		t.Errorf("Fits of a whole volume: got %d", err)
	}
	if err := image.Fits(last, api.Write{Volume: 7, Data: make([]api.Sector, 4097)}); err != api.ErrRange {
		t.Errorf("Fits of more than a volume: got %d", err)
	}
	for i, wrong := range wrongImages() {
		// The image is checked before the write.
		for _, w := range []api.Write{write(0, 0, "1"), write(-1, 0, ""), write(0, 0, ""), write(0, -1, "1")} {
			if err := image.Fits(wrong.im, w); err != wrong.err {
				t.Errorf("Fits for the wrong image %d: got %d, want %d", i, err, wrong.err)
			}
		}
	}
}

func TestP71Example(t *testing.T) {
	im, _ := image.New([]int{4, 2})
	im = apply(t, im, []api.Write{write(0, 1, "12")})
	expect(t, "a write of x, y", im, api.OK, picture("0120", "00"), api.OK)
	im = apply(t, im, []api.Write{write(0, 2, "3")})
	expect(t, "a write of z", im, api.OK, picture("0130", "00"), api.OK)
	zero, _ := image.New([]int{4, 2})
	if got := differ(t, zero, im); !slices.Equal(got[0], []api.Extent{at(1, 2)}) || len(got[1]) > 0 {
		t.Errorf("Differ: got %v", got)
	}
	if got := patch(t, zero, im); !equalWrites(got, []api.Write{write(0, 1, "13")}) {
		t.Errorf("Patch: got %v", got)
	}
}

// applied is the image after writes by the definition: sector by sector.
func applied(im api.Image, l []api.Write) api.Image {
	var after api.Image
	for v, volume := range im {
		var made []api.Sector
		for i, s := range volume {
			for _, w := range l {
				if w.Volume == v && w.Start <= i && i < w.Start+len(w.Data) {
					s = w.Data[i-w.Start]
				}
			}
			made = append(made, s)
		}
		after = append(after, made)
	}
	return after
}

func TestP71Apply(t *testing.T) {
	im := picture("1234", "56")
	for _, c := range []struct {
		l    []api.Write
		want api.Image
	}{
		{nil, im},
		{[]api.Write{}, im},
		{[]api.Write{write(1, 0, "78")}, picture("1234", "78")},
		{[]api.Write{write(0, 0, "7890")}, picture("7890", "56")},
		{[]api.Write{write(0, 3, "9"), write(1, 1, "8")}, picture("1239", "58")},
		// The last write wins, also where a later one stands before an earlier one.
		{[]api.Write{write(0, 1, "77"), write(0, 0, "88"), write(0, 2, "99")}, picture("8899", "56")},
		{[]api.Write{write(0, 0, "9999"), write(0, 1, "0"), write(0, 1, "1")}, picture("9199", "56")},
	} {
		got, index, err := image.Apply(im, c.l)
		expect(t, "Apply", got, err, c.want, api.OK)
		if index != 0 {
			t.Errorf("Apply(%v): got the index %d", c.l, index)
		}
	}
	for i, sizes := range someSizes() {
		next := random(uint32(i))
		for n := range 12 {
			im, l := randomImage(next, sizes), randomWrites(next, sizes, n)
			expect(t, "Apply of many writes", apply(t, im, l), api.OK, applied(im, l), api.OK)
		}
	}
}

func TestP71ApplyErrors(t *testing.T) {
	good := []api.Write{write(0, 0, "1"), write(1, 1, "2"), write(0, 0, "1234")}
	for _, m := range misfits() {
		for n := range len(good) + 1 {
			// What stands behind the first write that does not fit is not looked at.
			for _, behind := range [][]api.Write{nil, good, {write(9, 0, "1")}, {write(0, 9, "1")}, {write(0, 0, "")}} {
				l := slices.Concat(good[:n], []api.Write{m.w}, behind)
				got, index, err := image.Apply(picture("0000", "00"), l)
				expect(t, "Apply of a write that does not fit", got, err, nil, m.err)
				if index != n {
					t.Errorf("Apply(%v): got the index %d, want %d", l, index, n)
				}
			}
		}
	}
	for _, wrong := range wrongImages() {
		for _, l := range [][]api.Write{nil, good, {write(9, 0, "1")}, {good[0], write(0, 9, "")}} {
			got, index, err := image.Apply(wrong.im, l)
			expect(t, "Apply to a wrong image", got, err, nil, wrong.err)
			if index != 0 {
				t.Errorf("Apply to a wrong image: got the index %d", index)
			}
		}
	}
}

func TestP71Read(t *testing.T) {
	im := picture("1234", "56")
	starts := []int{math.MinInt, -2, -1, 0, 1, 2, 3, 4, 5, math.MaxInt - 1, math.MaxInt}
	for volume, text := range []string{"1234", "56"} {
		for _, start := range starts {
			for _, count := range starts {
				var want []api.Sector
				code := api.ErrRange
				if start >= 0 && count >= 0 && uint64(start)+uint64(count) <= uint64(len(text)) {
					want, code = sectors(text[start:start+count]), api.OK
				}
				got, err := image.Read(im, volume, at(start, count))
				expectSectors(t, "Read", got, err, want, code)
			}
		}
	}
	for _, volume := range []int{math.MinInt, -1, 2, 8, math.MaxInt} {
		// The volume is checked before the extent.
		for _, e := range []api.Extent{at(0, 0), at(0, 1), at(-1, 1), at(9, 9)} {
			got, err := image.Read(im, volume, e)
			expectSectors(t, "Read of no volume", got, err, nil, api.ErrNone)
		}
	}
	for _, wrong := range wrongImages() {
		// The image is checked before the volume.
		for _, volume := range []int{-1, 0, 9} {
			got, err := image.Read(wrong.im, volume, at(-1, 0))
			expectSectors(t, "Read of a wrong image", got, err, nil, wrong.err)
			got, err = image.Read(wrong.im, volume, at(0, 0))
			expectSectors(t, "Read of a wrong image", got, err, nil, wrong.err)
		}
	}
}

func TestP72Same(t *testing.T) {
	// Any images: also such as are not correct, with nil and empty volumes.
	images := []api.Image{nil, {nil}, {nil, nil}, picture("0"), picture("00"), picture("0", "0"), picture("", "0"), picture("0", ""), picture("01"), picture("10"), picture("0", "1"), picture("1", "0"), sized(4097), sized(1, 1, 1, 1, 1, 1, 1, 1, 1), sized(4097, 4097)}
	for k := range api.SectorSize {
		var s api.Sector
		s[k] = 1
		images = append(images, api.Image{{{}, s}, {{}}}, api.Image{{{}, {}}, {s}})
	}
	last := sized(4096, 4096)
	last[1][4095][7]++
	images = append(images, sized(4096, 4096), last)
	for i, a := range images {
		for k, b := range images {
			if got := image.Same(a, b); got != (i == k) {
				t.Errorf("Same of the images %d and %d: got %v", i, k, got)
			}
		}
		var copied api.Image
		for _, volume := range a {
			copied = append(copied, append([]api.Sector{}, volume...))
		}
		if !image.Same(a, copied) || !image.Same(copied, a) {
			t.Errorf("the image %d is not the same as its copy", i)
		}
	}
	if !image.Same(nil, api.Image{}) || !image.Same(api.Image{nil}, api.Image{{}}) {
		t.Error("nil and empty images are not the same")
	}
}

// differences are those of two images by the definition: a sector at which they differ begins an extent, or belongs to that of the one before.
func differences(a, b api.Image) [][]api.Extent {
	l := make([][]api.Extent, len(a))
	for v := range a {
		before := false
		for i := range a[v] {
			now := a[v][i] != b[v][i]
			switch {
			case now && before:
				l[v][len(l[v])-1].Count++
			case now:
				l[v] = append(l[v], at(i, 1))
			}
			before = now
		}
	}
	return l
}

func equalLists(a, b [][]api.Extent) bool {
	return slices.EqualFunc(a, b, slices.Equal[[]api.Extent])
}

func TestP72Differ(t *testing.T) {
	for _, c := range []struct {
		a, b api.Image
		want [][]api.Extent
	}{
		{picture("0000", "00"), picture("0000", "00"), [][]api.Extent{nil, nil}},
		{picture("0000", "00"), picture("1234", "56"), [][]api.Extent{{at(0, 4)}, {at(0, 2)}}},
		{picture("1234", "56"), picture("1934", "57"), [][]api.Extent{{at(1, 1)}, {at(1, 1)}}},
		{picture("1234567"), picture("0230560"), [][]api.Extent{{at(0, 1), at(3, 1), at(6, 1)}}},
		{picture("1111111"), picture("1001001"), [][]api.Extent{{at(1, 2), at(4, 2)}}},
		{picture("1"), picture("2"), [][]api.Extent{{at(0, 1)}}},
	} {
		if got := differ(t, c.a, c.b); !equalLists(got, c.want) {
			t.Errorf("Differ(%v, %v): got %v, want %v", c.a, c.b, got, c.want)
		}
	}
	for k := range api.SectorSize {
		// Each byte of a sector counts.
		a, b := sized(4, 3), sized(4, 3)
		b[1][2][k] ^= 128
		if got := differ(t, a, b); !equalLists(got, [][]api.Extent{nil, {at(2, 1)}}) {
			t.Errorf("Differ at byte %d: got %v", k, got)
		}
	}
	for i, sizes := range someSizes() {
		next := random(uint32(i))
		for range 10 {
			a, b := randomImage(next, sizes), randomImage(next, sizes)
			if got := differ(t, a, b); !equalLists(got, differences(a, b)) {
				t.Errorf("Differ(%v, %v): got %v", a, b, got)
			}
		}
	}
}

func TestP72Patch(t *testing.T) {
	got := patch(t, picture("1234567", "12", "123"), picture("0230567", "12", "456"))
	if want := []api.Write{write(0, 0, "0"), write(0, 3, "0"), write(2, 0, "456")}; !equalWrites(got, want) {
		t.Errorf("Patch: got %v, want %v", got, want)
	}
	for i, sizes := range someSizes() {
		next := random(uint32(i))
		for range 10 {
			from, to := randomImage(next, sizes), randomImage(next, sizes)
			var want []api.Write
			for v, l := range differences(from, to) {
				for _, e := range l {
					want = append(want, api.Write{Volume: v, Start: e.Start, Data: to[v][e.Start : e.Start+e.Count]})
				}
			}
			if got := patch(t, from, to); !equalWrites(got, want) {
				t.Errorf("Patch(%v, %v): got %v", from, to, got)
			}
		}
	}
}

func TestP72DifferAndPatchErrors(t *testing.T) {
	type pair struct {
		a, b api.Image
		want api.Errno
	}
	good := picture("1234", "56")
	pairs := []pair{
		{good, picture("1234"), api.ErrMismatch},
		{good, picture("1234", "56", "7"), api.ErrMismatch},
		{good, picture("12", "3456"), api.ErrMismatch},
		{good, picture("1234", "567"), api.ErrMismatch},
		{good, picture("123", "56"), api.ErrMismatch},
		{good, picture("123456"), api.ErrMismatch},
		{sized(4096), sized(4095), api.ErrMismatch},
	}
	for _, p := range pairs {
		pairs = append(pairs, pair{p.b, p.a, p.want})
	}
	for _, w := range wrongImages() {
		// Both images are checked before their sizes are compared.
		pairs = append(pairs, pair{w.im, good, w.err}, pair{good, w.im, w.err}, pair{w.im, w.im, w.err})
		for _, other := range wrongImages() {
			pairs = append(pairs, pair{w.im, other.im, w.err})
		}
	}
	for i, p := range pairs {
		if l, err := image.Differ(p.a, p.b); err != p.want || len(l) > 0 {
			t.Errorf("Differ of the pair %d: got %v, %d, want %d", i, l, err, p.want)
		}
		if l, err := image.Patch(p.a, p.b); err != p.want || len(l) > 0 {
			t.Errorf("Patch of the pair %d: got %v, %d, want %d", i, l, err, p.want)
		}
	}
}

// digestOf is the digest of bytes by its definition: FNV-1a, with its upper half added to the lower one.
func digestOf(b []byte) uint64 {
	h := fnv.New64a()
	h.Write(b)
	return h.Sum64() ^ h.Sum64()>>32
}

func TestP72Digest(t *testing.T) {
	// Any image has a digest.
	images := []api.Image{nil, {nil}, {nil, nil}, picture("0"), picture("00"), picture("0", "0"), picture("1234", "56"), picture("12", "3456"), picture("56", "1234"), picture("123456"), sized(4097), sized(1, 2, 3, 4, 5, 6, 7, 8, 9)}
	for i, sizes := range someSizes() {
		images = append(images, sized(sizes...), randomImage(random(uint32(i)), sizes))
	}
	seen := map[uint64]int{}
	for i, im := range images {
		want := digestOf(nil)
		for _, volume := range im {
			pair := binary.LittleEndian.AppendUint64(nil, want)
			pair = binary.LittleEndian.AppendUint64(pair, digestOf(bytesOf(volume)))
			want = digestOf(pair)
		}
		got := image.Digest(im)
		if got != want {
			t.Errorf("Digest of the image %d: got %x, want %x", i, got, want)
		}
		if k, found := seen[got]; found && !same(im, images[k]) {
			t.Errorf("the images %d and %d have the same digest", i, k)
		}
		seen[got] = i
	}
	if got := image.Digest(nil); got != 0xCBF29CE44FD0BFC1 {
		t.Errorf("Digest of no volumes: got %x", got)
	}
	if image.Digest(api.Image{}) != image.Digest(nil) || image.Digest(api.Image{{}}) != image.Digest(api.Image{nil}) {
		t.Error("nil and empty images have different digests")
	}
}

func TestP73LastWrite(t *testing.T) {
	for i, sizes := range someSizes() {
		next := random(uint32(i))
		im, l := randomImage(next, sizes), randomWrites(next, sizes, 9)
		after := apply(t, im, l)
		for v, size := range sizes {
			for s := range size {
				want := im[v][s]
				for _, w := range l {
					if w.Volume == v && w.Start <= s && s < w.Start+len(w.Data) {
						want = w.Data[s-w.Start]
					}
				}
				got, err := image.Read(after, v, at(s, 1))
				if err != api.OK || len(got) != 1 || got[0] != want {
					t.Fatalf("sector %d of volume %d: got %v, %d, want %v", s, v, got, err, want)
				}
			}
		}
		for n := range len(l) + 1 {
			// Several steps yield what one step does.
			if got := apply(t, apply(t, im, l[:n]), l[n:]); !image.Same(got, after) {
				t.Errorf("%d writes in a step of their own: got %v, want %v", n, got, after)
			}
		}
	}
}

func TestP73Patch(t *testing.T) {
	for i, sizes := range someSizes() {
		next := random(uint32(i))
		for range 8 {
			from := randomImage(next, sizes)
			for _, to := range []api.Image{randomImage(next, sizes), applied(from, randomWrites(next, sizes, 2)), applied(from, nil)} {
				l := patch(t, from, to)
				if got := apply(t, from, l); !image.Same(got, to) {
					t.Fatalf("the patch %v leads to %v, want %v", l, got, to)
				}
				for _, w := range l {
					for k, s := range w.Data {
						if from[w.Volume][w.Start+k] == s {
							t.Fatalf("the patch %v contains a sector that does not differ", l)
						}
					}
				}
				if (len(l) == 0) != image.Same(from, to) {
					t.Errorf("the patch of %v and %v: got %v", from, to, l)
				}
			}
		}
	}
}

func TestP73BothDirections(t *testing.T) {
	for i, sizes := range someSizes() {
		next := random(uint32(i))
		for range 8 {
			a, b := randomImage(next, sizes), randomImage(next, sizes)
			there, back := differ(t, a, b), differ(t, b, a)
			if !equalLists(there, back) {
				t.Errorf("Differ: got %v there, %v back", there, back)
			}
			for v, l := range there {
				if err := extent.Check(l, sizes[v]); err != api.OK {
					t.Errorf("Check of the extents %v: got %d", l, err)
				}
			}
		}
	}
}

// results are what all functions make of two images and a list of writes.
func results(a, b api.Image, l []api.Write) []any {
	zero, _ := image.New([]int{3, 2})
	after, _, _ := image.Apply(a, l)
	kept, _, _ := image.Apply(a, nil)
	read, _ := image.Read(a, 0, at(1, 3))
	differences, _ := image.Differ(a, b)
	patch, _ := image.Patch(a, b)
	return []any{zero, after, kept, read, differences, patch}
}

// spoil changes everything that can be reached from a list, with its spare capacity.
func spoil(list any) {
	switch l := list.(type) {
	case []api.Sector:
		for i := range l[:cap(l)] {
			l[:cap(l)][i][0] = 0xEE
		}
	case []api.Extent:
		for i := range l[:cap(l)] {
			l[:cap(l)][i].Count = -7
		}
	case api.Image:
		for _, volume := range l[:cap(l)] {
			spoil(volume)
		}
		clear(l[:cap(l)])
	case [][]api.Extent:
		for _, extents := range l[:cap(l)] {
			spoil(extents)
		}
		clear(l[:cap(l)])
	case []api.Write:
		for _, w := range l[:cap(l)] {
			spoil(w.Data)
		}
		clear(l[:cap(l)])
	}
}

// arguments are two images and a list of writes with spare capacity behind each list.
func arguments() (a, b api.Image, l []api.Write) {
	a, b = picture("12345", "67", "spare"), picture("92395", "68", "spare")
	for _, im := range []api.Image{a, b} {
		im[0], im[1] = im[0][:4], im[1][:1]
	}
	l = []api.Write{write(0, 0, "77"), write(1, 0, "8"), write(0, 3, "99"), write(0, 1, "1")}
	l[2].Data = l[2].Data[:1]
	return a[:2], b[:2], l[:3]
}

func TestValues(t *testing.T) {
	a, b, l := arguments()
	sizes := []int{3, 2, 9}
	if _, err := image.New(sizes[:2]); err != api.OK || !slices.Equal(sizes, []int{3, 2, 9}) {
		t.Errorf("New modifies the sizes: %v, %d", sizes, err)
	}
	got := results(a, b, l)
	wanted := results(arguments())
	keptA, keptB, keptL := arguments()
	unmodified := func(im, kept api.Image) bool {
		return same(im[:3], kept[:3]) && same(api.Image{im[0][:5], im[1][:2]}, api.Image{kept[0][:5], kept[1][:2]})
	}
	if !unmodified(a, keptA) || !unmodified(b, keptB) || !equalWrites(l[:4], keptL[:4]) || l[2].Data[:2][1] != keptL[2].Data[:2][1] {
		t.Errorf("the arguments are modified: %v, %v, %v", a, b, l)
	}
	spoil(a)
	spoil(b)
	spoil(l)
	for i := range got {
		if !reflect.DeepEqual(got[i], wanted[i]) {
			t.Errorf("the result %d after a change of the arguments: got %v, want %v", i, got[i], wanted[i])
		}
		spoil(got[i])
		for k := i + 1; k < len(got); k++ {
			if !reflect.DeepEqual(got[k], wanted[k]) {
				t.Errorf("the result %d after a change of the result %d: got %v, want %v", k, i, got[k], wanted[k])
			}
		}
	}
}

func TestValuesWithinAResult(t *testing.T) {
	// The parts of one result share no memory: what is put behind one does not change another.
	im, _ := image.New([]int{2, 2})
	_ = append(im[0], sectors("99")...)
	im[0][0] = api.Sector{9}
	expect(t, "volume 1 after a change of volume 0", im[1:], api.OK, picture("00"), api.OK)
	after := apply(t, picture("12", "34"), nil)
	_ = append(after[0], sectors("99")...)
	expect(t, "volume 1 after a change behind volume 0", after[1:], api.OK, picture("34"), api.OK)
	l := patch(t, picture("000000"), picture("120340"))
	_ = append(l[0].Data, sectors("999")...)
	if !equalWrites(l, []api.Write{write(0, 0, "12"), write(0, 3, "34")}) {
		t.Errorf("the patch after a change behind its first write: %v", l)
	}
	lists := differ(t, picture("00", "00"), picture("10", "01"))
	_ = append(lists[0], at(7, 7), at(7, 7))
	if !equalLists(lists, [][]api.Extent{{at(0, 1)}, {at(1, 1)}}) {
		t.Errorf("the differences after a change behind those of volume 0: %v", lists)
	}
}
