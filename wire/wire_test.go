package wire_test

import (
	"bytes"
	"math"
	"reflect"
	"slices"
	"strconv"
	"strings"
	"testing"

	"standby/api"
	"standby/wire"
)

// most is the greatest number that has an encoding.
const most = 1<<53 - 1

// kind is a kind of values, which are passed as any: how they are put and read, and how they are encoded and scanned by the definition. The values of samples can be put and read again.
type kind struct {
	name    string
	put     func(dst []byte, v any) []byte
	read    func(src []byte) (any, []byte, api.Errno)
	encode  func(v any) []byte
	scan    scan
	samples []any
}

// scan returns the number of bytes of the encoding at the beginning of src, or an error.
type scan func(src []byte) (int, api.Errno)

func kindOf[T any](name string, put func([]byte, T) []byte, read func([]byte) (T, []byte, api.Errno), encode func(T) []byte, s scan, samples []T) kind {
	k := kind{
		name:   name,
		put:    func(dst []byte, v any) []byte { return put(dst, v.(T)) },
		encode: func(v any) []byte { return encode(v.(T)) },
		scan:   s,
	}
	k.read = func(src []byte) (any, []byte, api.Errno) {
		v, rest, err := read(src)
		return v, rest, err
	}
	for _, v := range samples {
		k.samples = append(k.samples, v)
	}
	return k
}

func kinds() []kind {
	return []kind{
		kindOf("Int", wire.PutInt, wire.Int, number, scanNumber, numbers()),
		kindOf("Bytes", wire.PutBytes, wire.Bytes, func(b []byte) []byte { return slices.Concat(number(len(b)), b) }, scanBytes, byteStrings()),
		kindOf("Ints", wire.PutInts, wire.Ints, listOf(number), scanList(scanNumber), [][]int{nil, {0}, {127, 128, 0}, numbers()}),
		kindOf("Sectors", wire.PutSectors, wire.Sectors, listOf(sector), scanList(scanSector), sectorLists()),
		kindOf("Extents", wire.PutExtents, wire.Extents, listOf(extent), scanList(inOrder(scanNumber, scanNumber)), extentLists()),
		kindOf("Writes", wire.PutWrites, wire.Writes, listOf(write), scanList(inOrder(scanNumber, scanNumber, scanList(scanSector))), writeLists()),
	}
}

// numbers are those around the ends of groups, and the greatest one.
func numbers() []int {
	l := []int{0, 1, 2, 63, 100, 300, 4095, 4096, 65535, 65536, 65537, 1 << 52, most - 1}
	for groups := 1; groups < 8; groups++ {
		end := 1 << (7 * groups)
		l = append(l, end-1, end, end+1)
	}
	return append(l, most)
}

func byteStrings() [][]byte {
	l := [][]byte{nil, {0}, {128}, {255, 0, 255}, []byte("standby")}
	for _, n := range []int{127, 128, 1000} {
		l = append(l, bytes.Repeat([]byte{byte(n), 129}, n)[:n])
	}
	return l
}

// run are n different sectors, the first of which begins with a byte.
func run(first byte, n int) []api.Sector {
	var l []api.Sector
	for i := range n {
		l = append(l, api.Sector{first, byte(i), byte(i >> 8), 3: 128, 7: 255})
	}
	return l
}

func sectorLists() [][]api.Sector {
	return [][]api.Sector{nil, {{}}, {{1, 2, 3, 4, 5, 6, 7, 8}, {}}, run(9, 127), run(0, 128), run(255, 140)}
}

func extentLists() [][]api.Extent {
	// Whether extents fit anything does not matter, nor does their order.
	l := [][]api.Extent{nil, {{}}, {{Start: 0, Count: 4}, {Start: 200, Count: 1}}, {{Start: 9, Count: 0}, {Start: 3, Count: most}, {Start: most, Count: most}}}
	var many []api.Extent
	for i, n := range numbers() {
		many = append(many, api.Extent{Start: n, Count: i})
	}
	return append(l, many, slices.Repeat(many, 5))
}

func writeLists() [][]api.Write {
	return [][]api.Write{
		nil,
		{{}},
		{{Volume: 1, Start: 2, Data: run(0, 1)}},
		{{Volume: 0, Start: 0, Data: nil}, {Volume: 7, Start: 4095, Data: run(1, 2)}},
		{{Volume: most, Start: most, Data: run(2, 1)}, {Volume: 128, Start: 127}, {Volume: 300, Start: 1 << 49, Data: run(3, 129)}},
		slices.Repeat([]api.Write{{Volume: 3, Start: 77, Data: run(5, 3)}}, 130),
	}
}

// number is the encoding of a number, from its binary digits.
func number(n int) []byte {
	if n < 0 || n > most {
		n = 0
	}
	digits := strconv.FormatInt(int64(n), 2)
	digits = strings.Repeat("0", (7-len(digits)%7)%7) + digits
	var b []byte
	for end := len(digits); end > 0; end -= 7 {
		group, _ := strconv.ParseUint(digits[end-7:end], 2, 7)
		if end > 7 {
			group += 128
		}
		b = append(b, byte(group))
	}
	return b
}

func sector(s api.Sector) []byte {
	return s[:]
}

func extent(e api.Extent) []byte {
	return slices.Concat(number(e.Start), number(e.Count))
}

func write(w api.Write) []byte {
	return slices.Concat(number(w.Volume), number(w.Start), listOf(sector)(w.Data))
}

func listOf[T any](element func(T) []byte) func([]T) []byte {
	return func(l []T) []byte {
		b := number(len(l))
		for _, x := range l {
			b = append(b, element(x)...)
		}
		return b
	}
}

func scanNumber(src []byte) (int, api.Errno) {
	last := slices.IndexFunc(src, func(b byte) bool { return b < 128 })
	switch {
	case last < 0 && len(src) < 8:
		return 0, api.ErrTorn
	case last < 0 || last > 7:
		return 0, api.ErrForm
	case last > 0 && src[last] == 0:
		return 0, api.ErrForm
	case last == 7 && src[last] > 15:
		return 0, api.ErrForm
	}
	return last + 1, api.OK
}

// value is the number whose encoding b is.
func value(b []byte) int {
	n := 0
	for i := len(b) - 1; i >= 0; i-- {
		n = n*128 + int(b[i])%128
	}
	return n
}

// scanLength returns the length at the beginning of src, and the number of its bytes.
func scanLength(src []byte) (int, int, api.Errno) {
	used, err := scanNumber(src)
	n := value(src[:used])
	if err == api.OK && n > 65536 {
		err = api.ErrLong
	}
	return n, used, err
}

func scanBytes(src []byte) (int, api.Errno) {
	n, used, err := scanLength(src)
	if err == api.OK && n > len(src)-used {
		err = api.ErrTorn
	}
	return used + n, err
}

func scanSector(src []byte) (int, api.Errno) {
	if len(src) < 8 {
		return 0, api.ErrTorn
	}
	return 8, api.OK
}

func inOrder(parts ...scan) scan {
	return func(src []byte) (int, api.Errno) {
		used := 0
		for _, part := range parts {
			n, err := part(src[used:])
			if err != api.OK {
				return 0, err
			}
			used += n
		}
		return used, api.OK
	}
}

func scanList(element scan) scan {
	return func(src []byte) (int, api.Errno) {
		n, used, err := scanLength(src)
		if err != api.OK {
			return 0, err
		}
		for range n {
			length, err := element(src[used:])
			if err != api.OK {
				return 0, err
			}
			used += length
		}
		return used, api.OK
	}
}

// empty reports whether a value is that of no value.
func empty(v any) bool {
	x := reflect.ValueOf(v)
	return x.Kind() == reflect.Slice && x.Len() == 0 || x.IsZero()
}

// short is the beginning of a byte string for a report.
func short(b []byte) string {
	var words []string
	for _, x := range b[:min(len(b), 40)] {
		words = append(words, strconv.Itoa(int(x)))
	}
	return strings.Join(words, " ") + " (" + strconv.Itoa(len(b)) + " bytes)"
}

// check reads src, and compares all results with the definition.
func check(t *testing.T, k kind, src []byte) {
	t.Helper()
	v, rest, err := k.read(src)
	used, want := k.scan(src)
	switch {
	case err != want:
		t.Fatalf("%s of %s: got the error %d, want %d", k.name, short(src), err, want)
	case err != api.OK && (!empty(v) || len(rest) > 0):
		t.Fatalf("%s of %s: got %v and the rest %s beside the error %d", k.name, short(src), v, short(rest), err)
	case err == api.OK && !bytes.Equal(rest, src[used:]):
		t.Fatalf("%s of %s: got the rest %s, want %s", k.name, short(src), short(rest), short(src[used:]))
	case err == api.OK && !bytes.Equal(k.encode(v), src[:used]):
		t.Fatalf("%s of %s: got %v", k.name, short(src), v)
	}
}

func TestP31Numbers(t *testing.T) {
	for _, x := range []struct {
		n    int
		want []byte
	}{
		{0, []byte{0}},
		{1, []byte{1}},
		{127, []byte{127}},
		{128, []byte{128, 1}},
		{200, []byte{200, 1}},
		{300, []byte{172, 2}},
		{16383, []byte{255, 127}},
		{16384, []byte{128, 128, 1}},
		{1 << 49, []byte{128, 128, 128, 128, 128, 128, 128, 1}},
		{most, []byte{255, 255, 255, 255, 255, 255, 255, 15}},
		// Numbers without an encoding are written as 0.
		{most + 1, []byte{0}},
		{1 << 60, []byte{0}},
		{math.MaxInt, []byte{0}},
		{-1, []byte{0}},
		{-128, []byte{0}},
		{math.MinInt, []byte{0}},
	} {
		if got := wire.PutInt(nil, x.n); !bytes.Equal(got, x.want) {
			t.Errorf("PutInt of %d: got %v, want %v", x.n, got, x.want)
		}
	}
	for n := range 20000 {
		if got := wire.PutInt(nil, n); !bytes.Equal(got, number(n)) {
			t.Fatalf("PutInt of %d: got %v, want %v", n, got, number(n))
		}
	}
}

func TestP31Examples(t *testing.T) {
	for _, x := range []struct {
		what      string
		got, want []byte
	}{
		{"a write", wire.PutWrites(nil, []api.Write{{Volume: 1, Start: 2, Data: []api.Sector{{}}}}), []byte{1, 1, 2, 1, 0, 0, 0, 0, 0, 0, 0, 0}},
		{"extents", wire.PutExtents(nil, []api.Extent{{Start: 0, Count: 4}, {Start: 200, Count: 1}}), []byte{2, 0, 4, 200, 1, 1}},
		{"a byte string", wire.PutBytes(nil, []byte{7, 200}), []byte{2, 7, 200}},
		{"no bytes", wire.PutBytes(nil, nil), []byte{0}},
		{"numbers", wire.PutInts(nil, []int{128, 0}), []byte{2, 128, 1, 0}},
		{"sectors", wire.PutSectors(nil, []api.Sector{{1, 2, 3, 4, 5, 6, 7, 8}, {9}}), []byte{2, 1, 2, 3, 4, 5, 6, 7, 8, 9, 0, 0, 0, 0, 0, 0, 0}},
		{"no writes", wire.PutWrites(nil, nil), []byte{0}},
		{"an empty write", wire.PutWrites(nil, []api.Write{{Volume: 3, Start: 300}}), []byte{1, 3, 172, 2, 0}},
		// Numbers without an encoding are written as 0 wherever they are.
		{"wrong numbers", wire.PutInts(nil, []int{-1, 5, most + 1}), []byte{3, 0, 5, 0}},
		{"wrong extents", wire.PutExtents(nil, []api.Extent{{Start: -1, Count: 2}, {Start: 3, Count: math.MinInt}, {Start: math.MaxInt, Count: most + 1}}), []byte{3, 0, 2, 3, 0, 0, 0}},
		{"wrong writes", wire.PutWrites(nil, []api.Write{{Volume: -4, Start: 1}, {Volume: 1, Start: most + 1}}), []byte{2, 0, 1, 0, 1, 0, 0}},
	} {
		if !bytes.Equal(x.got, x.want) {
			t.Errorf("%s: got %v, want %v", x.what, x.got, x.want)
		}
	}
}

func TestP31Samples(t *testing.T) {
	for _, k := range kinds() {
		for _, v := range k.samples {
			for _, dst := range [][]byte{nil, {}, {0}, {1, 128}, bytes.Repeat([]byte{255}, 500)} {
				want := slices.Concat(dst, k.encode(v))
				if got := k.put(dst, v); !bytes.Equal(got, want) {
					t.Errorf("Put%s of %v behind %d bytes: got %s, want %s", k.name, v, len(dst), short(got), short(want))
				}
			}
		}
	}
}

func TestP32Numbers(t *testing.T) {
	full := []byte{255, 255, 255, 255, 255, 255, 255}
	for _, x := range []struct {
		src  []byte
		n    int
		rest []byte
		err  api.Errno
	}{
		{[]byte{0}, 0, nil, api.OK},
		{[]byte{127, 5}, 127, []byte{5}, api.OK},
		{[]byte{128, 1}, 128, nil, api.OK},
		{[]byte{172, 2, 172}, 300, []byte{172}, api.OK},
		{[]byte{0, 0}, 0, []byte{0}, api.OK},
		{append(slices.Clone(full), 15, 1, 2), most, []byte{1, 2}, api.OK},
		{append(slices.Clone(full), 16), 0, nil, api.ErrForm},
		{append(slices.Clone(full), 127), 0, nil, api.ErrForm},
		{nil, 0, nil, api.ErrTorn},
		{[]byte{128}, 0, nil, api.ErrTorn},
		{[]byte{255, 128}, 0, nil, api.ErrTorn},
		{full, 0, nil, api.ErrTorn},
		{[]byte{128, 0}, 0, nil, api.ErrForm},
		{[]byte{255, 255, 0, 1}, 0, nil, api.ErrForm},
		{append(slices.Clone(full), 0), 0, nil, api.ErrForm},
		// The eighth group is seen before the end of src.
		{append(slices.Clone(full), 128), 0, nil, api.ErrForm},
		{append(slices.Clone(full), 255), 0, nil, api.ErrForm},
		{append(slices.Clone(full), 129, 1), 0, nil, api.ErrForm},
		{append(slices.Clone(full), 128, 0), 0, nil, api.ErrForm},
	} {
		n, rest, err := wire.Int(x.src)
		if n != x.n || !bytes.Equal(rest, x.rest) || err != x.err {
			t.Errorf("Int of %v: got %d, %v, %d, want %d, %v, %d", x.src, n, rest, err, x.n, x.rest, x.err)
		}
	}
}

func TestP32Lists(t *testing.T) {
	eight := []byte{1, 2, 3, 4, 5, 6, 7, 8}
	for _, x := range []struct {
		name string
		src  []byte
		err  api.Errno
	}{
		{"Bytes", []byte{2, 7, 7, 7}, api.OK},
		{"Bytes", []byte{2, 7}, api.ErrTorn},
		{"Bytes", []byte{128}, api.ErrTorn},
		{"Bytes", []byte{130, 0, 7, 7}, api.ErrForm},
		{"Ints", []byte{2, 128, 0, 128}, api.ErrForm},
		{"Ints", []byte{2, 128}, api.ErrTorn},
		{"Ints", []byte{2, 1}, api.ErrTorn},
		{"Sectors", append([]byte{1}, eight...), api.OK},
		{"Sectors", append([]byte{1}, eight[:7]...), api.ErrTorn},
		{"Sectors", append([]byte{2}, eight...), api.ErrTorn},
		{"Sectors", []byte{0}, api.OK},
		{"Extents", []byte{1, 0}, api.ErrTorn},
		{"Extents", []byte{1, 5, 128, 0}, api.ErrForm},
		{"Extents", []byte{2, 5, 5}, api.ErrTorn},
		{"Extents", []byte{1, 128, 0}, api.ErrForm},
		{"Writes", []byte{1, 5, 5, 0}, api.OK},
		{"Writes", []byte{1, 5, 5}, api.ErrTorn},
		{"Writes", []byte{1, 5, 5, 1}, api.ErrTorn},
		{"Writes", []byte{1, 128, 0}, api.ErrForm},
		{"Writes", []byte{1, 5, 128, 0}, api.ErrForm},
		{"Writes", []byte{1, 5, 5, 128, 0}, api.ErrForm},
		// The first error from left to right ends the reading.
		{"Writes", []byte{2, 5, 5, 1, 128, 0}, api.ErrTorn},
		{"Writes", []byte{2, 5, 5, 129, 128, 4, 128, 0}, api.ErrLong},
	} {
		found := false
		for _, k := range kinds() {
			if k.name != x.name {
				continue
			}
			found = true
			check(t, k, x.src)
			if _, _, err := k.read(x.src); err != x.err {
				t.Errorf("%s of %v: got %d, want %d", x.name, x.src, err, x.err)
			}
		}
		if !found {
			t.Errorf("there is no kind %s", x.name)
		}
	}
}

func TestP32Lengths(t *testing.T) {
	sectors, writes := make([]api.Sector, 65536), make([]api.Write, 65536)
	extents, ints := make([]api.Extent, 65536), make([]int, 65536)
	sectors[65535], writes[65535].Start, extents[65535].Count, ints[65535] = api.Sector{9}, 9, 9, 9
	greatest := []any{nil, bytes.Repeat([]byte{9}, 65536), ints, sectors, extents, writes}
	for i, k := range kinds() {
		if k.name == "Int" {
			continue
		}
		v, rest, err := k.read(append(k.put(nil, greatest[i]), 5))
		if err != api.OK || !bytes.Equal(rest, []byte{5}) || !reflect.DeepEqual(v, greatest[i]) {
			t.Errorf("%s with 65536 elements: got the error %d and the rest %v", k.name, err, rest)
		}
		for _, n := range []int{65537, 1 << 20, 1 << 40, most} {
			// What follows the length is not looked at.
			for _, tail := range [][]byte{nil, make([]byte, 8), {128, 0}, make([]byte, 70000*8)} {
				v, rest, err := k.read(append(number(n), tail...))
				if err != api.ErrLong || !empty(v) || len(rest) > 0 {
					t.Errorf("%s with %d elements: got %d, want ErrLong", k.name, n, err)
				}
			}
		}
		_, _, err = k.read(number(65536))
		if err != api.ErrTorn {
			t.Errorf("%s with 65536 elements that are not there: got %d, want ErrTorn", k.name, err)
		}
	}
	// The length of the sectors of a write is a length as well.
	for n, want := range map[int]api.Errno{65536: api.OK, 65537: api.ErrLong} {
		l, rest, err := wire.Writes(wire.PutWrites(nil, []api.Write{{}, {Data: make([]api.Sector, n)}}))
		if err != want || len(rest) > 0 || want == api.OK && (len(l) != 2 || len(l[1].Data) != n) || want != api.OK && len(l) > 0 {
			t.Errorf("a write of %d sectors: got %d writes, %d", n, len(l), err)
		}
	}
	if b, _, err := wire.Bytes(wire.PutBytes(nil, make([]byte, 65537))); err != api.ErrLong || len(b) > 0 {
		t.Errorf("65537 bytes: got %d bytes, %d, want ErrLong", len(b), err)
	}
}

// TestP32Short reads all byte strings of at most two bytes, and the longer ones that decide about a number.
func TestP32Short(t *testing.T) {
	for _, k := range kinds() {
		check(t, k, nil)
		for a := range 256 {
			check(t, k, []byte{byte(a)})
			for b := range 256 {
				check(t, k, []byte{byte(a), byte(b)})
			}
		}
		for _, head := range [][]byte{nil, {1}, {2}, {1, 0}, {1, 0, 0}, {2, 0, 0, 0}} {
			for _, group := range []byte{128, 129, 255} {
				for n := range 11 {
					src := append(slices.Clone(head), bytes.Repeat([]byte{group}, n)...)
					check(t, k, src)
					for _, last := range []byte{0, 1, 15, 16, 127} {
						check(t, k, append(slices.Clone(src), last))
						check(t, k, append(slices.Clone(src), last, 0, 0, 0, 0, 0, 0, 0, 0, 0, 0))
					}
				}
			}
		}
	}
}

// TestP32Damaged reads encodings in which a byte was changed, left out, or inserted.
func TestP32Damaged(t *testing.T) {
	for _, k := range kinds() {
		for _, v := range k.samples {
			src := append(k.encode(v), 1, 130, 0)
			check(t, k, src)
			for i := range min(len(src), 60) {
				for _, x := range []byte{0, 1, 2, 15, 16, 127, 128, 129, 255, src[i] ^ 128, src[i] + 1, src[i] - 1} {
					changed := slices.Clone(src)
					changed[i] = x
					check(t, k, changed)
					check(t, k, slices.Insert(slices.Clone(src), i, x))
				}
				check(t, k, slices.Delete(slices.Clone(src), i, i+1))
			}
		}
	}
}

func TestP32Random(t *testing.T) {
	seed := uint32(5)
	random := func(n int) int {
		seed = seed*1664525 + 1013904223
		return int(seed>>8) % n
	}
	for _, k := range kinds() {
		for range 20000 {
			src := make([]byte, random(60))
			for i := range src {
				src[i] = byte(random(4))
				if random(8) == 0 {
					src[i] = byte(random(256))
				}
			}
			check(t, k, src)
		}
	}
}

func TestP33ReadAgain(t *testing.T) {
	for _, k := range kinds() {
		for _, v := range k.samples {
			for _, rest := range [][]byte{nil, {0}, {128}, {255, 255, 0, 1, 2, 3, 4, 5, 6}} {
				b := append(k.put(nil, v), rest...)
				got, left, err := k.read(b)
				if err != api.OK || !bytes.Equal(left, rest) || !bytes.Equal(k.encode(got), k.encode(v)) {
					t.Errorf("%s: %v was put, read %v, %v, %d", k.name, v, got, left, err)
				}
			}
		}
	}
}

// TestP33OneEncoding reads byte strings, and puts what was read again.
func TestP33OneEncoding(t *testing.T) {
	seed := uint32(11)
	random := func(n int) int {
		seed = seed*1664525 + 1013904223
		return int(seed>>8) % n
	}
	for _, k := range kinds() {
		seen := 0
		for range 20000 {
			src := k.encode(k.samples[random(len(k.samples))])
			for range random(3) {
				src[random(len(src))] = byte(random(256))
			}
			v, rest, err := k.read(src)
			if err != api.OK {
				continue
			}
			seen++
			if again := k.put(nil, v); !bytes.Equal(again, src[:len(src)-len(rest)]) {
				t.Fatalf("%s of %s: put again as %s", k.name, short(src), short(again))
			}
		}
		if seen < 5000 {
			t.Errorf("%s: only %d byte strings were read", k.name, seen)
		}
	}
}

func TestP33Beginnings(t *testing.T) {
	for _, k := range kinds() {
		for _, v := range k.samples {
			b := k.put(nil, v)
			for i := range min(len(b), 1000) {
				got, rest, err := k.read(b[:i])
				if err != api.ErrTorn || !empty(got) || len(rest) > 0 {
					t.Fatalf("%s of the first %d bytes of %s: got %v, %v, %d, want ErrTorn", k.name, i, short(b), got, rest, err)
				}
			}
		}
	}
}

// TestP33OnlyAppends puts a value behind a part of a byte string, whose other bytes must stay as they are.
func TestP33OnlyAppends(t *testing.T) {
	for _, k := range kinds() {
		for _, v := range k.samples {
			whole := bytes.Repeat([]byte{77}, len(k.encode(v))+40)
			for _, n := range []int{0, 1, 20} {
				got := k.put(whole[:n], v)
				second := k.put(whole[:n], k.samples[0])
				if want := append(bytes.Repeat([]byte{77}, n), k.encode(v)...); !bytes.Equal(got, want) {
					t.Fatalf("Put%s behind %d bytes: got %s, want %s", k.name, n, short(got), short(want))
				}
				for i := range got {
					got[i] = 88
				}
				if want := append(bytes.Repeat([]byte{77}, n), k.encode(k.samples[0])...); !bytes.Equal(second, want) {
					t.Fatalf("Put%s: a result was changed by a change of another one", k.name)
				}
				if bytes.Count(whole, []byte{77}) != len(whole) {
					t.Fatalf("Put%s behind %d bytes: the argument or its spare capacity is changed", k.name, n)
				}
			}
		}
	}
}

// TestValuesOfReading changes results and arguments of the functions that read, which must not change each other.
func TestValuesOfReading(t *testing.T) {
	for _, k := range kinds() {
		for _, v := range k.samples {
			src := append(k.encode(v), 1, 2, 3)
			first, rest, _ := k.read(src)
			for i := range rest[:cap(rest)] {
				rest[:cap(rest)][i] = 99
			}
			if want := append(k.encode(v), 1, 2, 3); !bytes.Equal(src, want) {
				t.Fatalf("%s of %s: the argument shares memory with the rest", k.name, short(want))
			}
			for i := range src {
				src[i] ^= 255
			}
			if !bytes.Equal(k.encode(first), k.encode(v)) {
				t.Fatalf("%s: the value shares memory with the argument", k.name)
			}
		}
	}
	src := wire.PutBytes(nil, []byte{1, 2, 3})
	b, _, _ := wire.Bytes(src)
	b = b[:cap(b)]
	for i := range b {
		b[i] = 99
	}
	if !bytes.Equal(src, []byte{3, 1, 2, 3}) {
		t.Errorf("Bytes: a change of the value changed the argument to %v", src)
	}
}

func TestValuesOfWrites(t *testing.T) {
	data := run(4, 2)
	writes, _, err := wire.Writes(wire.PutWrites(nil, []api.Write{{Data: data}, {Volume: 1, Data: data}, {Volume: 2, Data: data}}))
	if err != api.OK || len(writes) != 3 {
		t.Fatalf("got %d writes, %d", len(writes), err)
	}
	// The writes share no memory with each other, not even that behind their data.
	l := writes[1].Data[:cap(writes[1].Data)]
	for i := range l {
		l[i] = api.Sector{99}
	}
	if !slices.Equal(writes[0].Data, data) || !slices.Equal(writes[2].Data, data) || !slices.Equal(data, run(4, 2)) {
		t.Errorf("a change of the data of a write changed that of another one")
	}
}
