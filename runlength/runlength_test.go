package runlength_test

import (
	"bytes"
	"math"
	"slices"
	"testing"

	"standby/api"
	"standby/runlength"
	"standby/wire"
)

var (
	zero = api.Sector{}
	a    = api.Sector{1, 2, 3, 4, 5, 6, 7, 8}
	b    = api.Sector{7: 1}
	c    = api.Sector{1}
)

// piece is a group by the definition: count sectors from start on.
type piece struct{ kind, start, count int }

// pieces divides a list into its maximal ranges of equal sectors, and joins those with one sector that is not zero.
func pieces(l []api.Sector) []piece {
	var found []piece
	for start := 0; start < len(l); {
		n := 1
		for start+n < len(l) && l[start+n] == l[start] {
			n++
		}
		last := len(found) - 1
		switch {
		case l[start] == zero:
			found = append(found, piece{2, start, n})
		case n > 1:
			found = append(found, piece{1, start, n})
		case last >= 0 && found[last].kind == 0:
			found[last].count++
		default:
			found = append(found, piece{0, start, 1})
		}
		start += n
	}
	return found
}

// encoding is the encoding of a list by the definition.
func encoding(l []api.Sector) []byte {
	var out []byte
	for _, p := range pieces(l) {
		here := l[p.start : p.start+p.count]
		out = slices.Concat(out, head(p.kind, p.count), join(here[:[]int{p.count, 1, 0}[p.kind]]...))
	}
	return out
}

// head is the number of a group.
func head(kind, count int) []byte {
	return wire.PutInt(nil, 4*count+kind)
}

// join is the bytes of sectors.
func join(l ...api.Sector) []byte {
	var out []byte
	for _, s := range l {
		out = append(out, s[:]...)
	}
	return out
}

// runsOf are the extents of the indices at which a sector equals one beside it.
func runsOf(l []api.Sector) []api.Extent {
	var runs []api.Extent
	for i := 1; i < len(l); i++ {
		if l[i] != l[i-1] {
			continue
		}
		if last := len(runs) - 1; last >= 0 && runs[last].Start+runs[last].Count == i && i > 1 && l[i-2] == l[i-1] {
			runs[last].Count++
		} else {
			runs = append(runs, api.Extent{Start: i - 1, Count: 2})
		}
	}
	return runs
}

// decoding is the result of Decode by the definition.
func decoding(whole []byte, most int) ([]api.Sector, api.Errno) {
	var l []api.Sector
	for rest := whole; len(rest) > 0; {
		n, behind, err := wire.Int(rest)
		if err != api.OK {
			return nil, err
		}
		kind, count := n%4, n/4
		stored := []int{count, 1, 0, 0}[kind]
		switch {
		case kind == 3 || count == 0:
			return nil, api.ErrForm
		case len(l)+count > most || len(l)+count > 4096:
			return nil, api.ErrLong
		case 8*stored > len(behind):
			return nil, api.ErrTorn
		}
		for i := range count {
			s := zero
			if stored > 0 {
				copy(s[:], behind[8*min(i, stored-1):])
			}
			l = append(l, s)
		}
		rest = behind[8*stored:]
	}
	if !bytes.Equal(encoding(l), whole) {
		return nil, api.ErrForm
	}
	return l, api.OK
}

// random returns a source of numbers that are the same in each run.
func random(seed uint32) func(n int) int {
	return func(n int) int {
		seed = seed*1664525 + 1013904223
		return int(seed>>8) % n
	}
}

// different are n sectors that are not zero and of which no two are equal.
func different(n int) []api.Sector {
	var l []api.Sector
	for i := range n {
		l = append(l, api.Sector{5, byte(i), byte(i >> 8), byte(i >> 16)})
	}
	return l
}

func repeat(s api.Sector, n int) []api.Sector {
	return slices.Repeat([]api.Sector{s}, n)
}

// lists are all lists of up to 7 of four sectors, lists at the ends of the groups' numbers, and random ones.
func lists() [][]api.Sector {
	all := [][]api.Sector{nil}
	for at := 0; len(all[at]) < 7; at++ {
		for _, s := range []api.Sector{zero, a, b, c} {
			all = append(all, append(slices.Clone(all[at]), s))
		}
	}
	// 4 n + k has one more byte from 32 and from 4096 on.
	for _, n := range []int{8, 31, 32, 33, 127, 128, 4094, 4095, 4096} {
		all = append(all, repeat(zero, n), repeat(a, n), different(n))
		all = append(all, append(different(n-1), zero), append(different(n-1), different(n - 1)[n-2]), append(repeat(zero, n-1), a), append(repeat(a, n-1), b))
	}
	next := random(17)
	for range 2000 {
		var l []api.Sector
		for range next(12) {
			s := []api.Sector{zero, a, b, c, {byte(next(256)), 3: byte(next(256))}}[next(5)]
			l = append(l, repeat(s, 1+next(3)*next(3)*next(20))...)
		}
		all = append(all, l)
	}
	return all
}

func TestP51Examples(t *testing.T) {
	for _, x := range []struct {
		l    []api.Sector
		want []byte
		runs []api.Extent
	}{
		{nil, nil, nil},
		{[]api.Sector{a, a, a, b, c, zero, zero}, slices.Concat([]byte{13}, join(a), []byte{8}, join(b, c), []byte{10}), []api.Extent{{Start: 0, Count: 3}, {Start: 5, Count: 2}}},
		{[]api.Sector{b, c, c}, slices.Concat([]byte{4}, join(b), []byte{9}, join(c)), []api.Extent{{Start: 1, Count: 2}}},
		{[]api.Sector{zero}, []byte{6}, nil},
		{[]api.Sector{a}, slices.Concat([]byte{4}, join(a)), nil},
		{[]api.Sector{a, b, a}, slices.Concat([]byte{12}, join(a, b, a)), nil},
		{[]api.Sector{zero, zero}, []byte{10}, []api.Extent{{Start: 0, Count: 2}}},
		{[]api.Sector{a, zero, a}, slices.Concat([]byte{4}, join(a), []byte{6, 4}, join(a)), nil},
		// Repetitions one behind the other are groups, and runs, of their own.
		{[]api.Sector{a, a, b, b, b}, slices.Concat([]byte{9}, join(a), []byte{13}, join(b)), []api.Extent{{Start: 0, Count: 2}, {Start: 2, Count: 3}}},
		{[]api.Sector{zero, zero, a, a, zero}, slices.Concat([]byte{10, 9}, join(a), []byte{6}), []api.Extent{{Start: 0, Count: 2}, {Start: 2, Count: 2}}},
		{repeat(zero, 31), []byte{126}, []api.Extent{{Start: 0, Count: 31}}},
		{repeat(zero, 32), []byte{130, 1}, []api.Extent{{Start: 0, Count: 32}}},
		{repeat(a, 4096), slices.Concat([]byte{129, 128, 1}, join(a)), []api.Extent{{Start: 0, Count: 4096}}},
	} {
		if got := runlength.Encode(x.l); !bytes.Equal(got, x.want) {
			t.Errorf("Encode of %v: got %v, want %v", x.l, got, x.want)
		}
		if got := runlength.Size(x.l); got != len(x.want) {
			t.Errorf("Size of %v: got %d, want %d", x.l, got, len(x.want))
		}
		if got := runlength.Runs(x.l); !slices.Equal(got, x.runs) {
			t.Errorf("Runs of %v: got %v, want %v", x.l, got, x.runs)
		}
	}
	if n := runlength.Size([]api.Sector{a, a, a, b, c, zero, zero}); n != 27 {
		t.Errorf("Size: got %d, want 27", n)
	}
}

func TestP51Lists(t *testing.T) {
	l := lists()
	// Lists that are longer than any that is decoded are encoded as well.
	l = append(l, repeat(zero, 4097), repeat(a, 10000), different(5000), append(repeat(b, 70000), different(70000)...))
	for _, x := range l {
		want := encoding(x)
		if got := runlength.Encode(x); !bytes.Equal(got, want) {
			t.Fatalf("Encode of %v: got %v, want %v", x, got, want)
		}
		if got := runlength.Size(x); got != len(want) {
			t.Fatalf("Size of %v: got %d, want %d", x, got, len(want))
		}
		if got := runlength.Runs(x); !slices.Equal(got, runsOf(x)) {
			t.Fatalf("Runs of %v: got %v, want %v", x, got, runsOf(x))
		}
	}
}

func TestP52Errors(t *testing.T) {
	eights := bytes.Repeat([]byte{255}, 8)
	for _, x := range []struct {
		what string
		b    []byte
		most int
		want api.Errno
	}{
		{"two equal sectors as literals", slices.Concat([]byte{8}, join(b, b)), 9, api.ErrForm},
		{"two zero groups", []byte{6, 6}, 9, api.ErrForm},
		{"two zero sectors, one allowed", []byte{10}, 1, api.ErrLong},
		{"a repetition of one", slices.Concat([]byte{5}, join(a)), 9, api.ErrForm},

		// The number of a group.
		{"a number that is torn", []byte{128}, 9, api.ErrTorn},
		{"a number with a last group 0", []byte{134, 0}, 9, api.ErrForm},
		{"a number with nine groups", append(slices.Clone(eights), 1), 9, api.ErrForm},
		{"eight groups of which the last is not the last one", eights, 9, api.ErrForm},
		{"a number that is too great", append(bytes.Repeat([]byte{128}, 7), 16), 9, api.ErrForm},
		{"the number of a second group", []byte{6, 128}, 9, api.ErrTorn},

		// Its parts.
		{"no literals", []byte{0}, 9, api.ErrForm},
		{"no repetitions", slices.Concat([]byte{1}, join(a)), 9, api.ErrForm},
		{"no zero sectors", []byte{2}, 9, api.ErrForm},
		{"no sectors of no kind", []byte{3}, 9, api.ErrForm},
		{"no kind", []byte{7}, 9, api.ErrForm},
		{"no kind, with a sector", slices.Concat([]byte{7}, join(a)), 9, api.ErrForm},
		{"no kind is found before too many sectors are", []byte{7}, 0, api.ErrForm},
		{"no kind with the greatest number", append(bytes.Repeat([]byte{255}, 7), 15), 9, api.ErrForm},
		{"no sectors are found where none are allowed", []byte{2}, 0, api.ErrForm},

		// Its length.
		{"the greatest zero group", append(append([]byte{254}, bytes.Repeat([]byte{255}, 6)...), 15), 4096, api.ErrLong},
		{"the greatest literal group", append(append([]byte{252}, bytes.Repeat([]byte{255}, 6)...), 15), 4096, api.ErrLong},
		{"the greatest repetition", append(append([]byte{253}, bytes.Repeat([]byte{255}, 6)...), 15), 4096, api.ErrLong},
		{"too many sectors are found before one is missing", []byte{4}, 0, api.ErrLong},
		{"too many repetitions are found before a sector is missing", []byte{9}, 1, api.ErrLong},
		{"too many sectors with the second group", []byte{6, 6}, 1, api.ErrLong},
		{"too many sectors with the third group", slices.Concat([]byte{4}, join(a), []byte{9}, join(b), []byte{6}), 3, api.ErrLong},
		{"more sectors than a volume has", head(2, 4097), 4097, api.ErrLong},
		{"more sectors than a volume has, with any bound", head(2, 4097), math.MaxInt, api.ErrLong},
		{"more sectors than a volume has in two groups", slices.Concat(head(1, 4096), join(a), []byte{6}), math.MaxInt, api.ErrLong},
		{"a negative bound", []byte{6}, -1, api.ErrLong},
		{"the least bound", []byte{6}, math.MinInt, api.ErrLong},

		// Its sectors.
		{"a missing literal", []byte{4}, 9, api.ErrTorn},
		{"a literal without its last byte", slices.Concat([]byte{4}, join(a)[:7]), 9, api.ErrTorn},
		{"the second literal is missing", slices.Concat([]byte{8}, join(a)), 9, api.ErrTorn},
		{"the second literal without its last byte", slices.Concat([]byte{8}, join(a, b)[:15]), 9, api.ErrTorn},
		{"the sector of a repetition is missing", []byte{9}, 9, api.ErrTorn},
		{"the sector of a repetition without its last byte", slices.Concat([]byte{9}, join(a)[:7]), 9, api.ErrTorn},

		// Only at the end it matters how the sectors are divided.
		{"a later group is torn", []byte{6, 6, 4}, 9, api.ErrTorn},
		{"a later group is too long", []byte{6, 6, 10}, 3, api.ErrLong},
		{"a zero sector as a literal", slices.Concat([]byte{4}, join(zero)), 9, api.ErrForm},
		{"zero sectors as a repetition", slices.Concat([]byte{9}, join(zero)), 9, api.ErrForm},
		{"two literal groups", slices.Concat([]byte{4}, join(a), []byte{4}, join(b)), 9, api.ErrForm},
		{"two repetitions of one sector", slices.Concat([]byte{9}, join(a), []byte{9}, join(a)), 9, api.ErrForm},
		{"a literal that belongs to a repetition", slices.Concat([]byte{4}, join(a), []byte{9}, join(a)), 9, api.ErrForm},
		{"a literal that belongs to the repetition before", slices.Concat([]byte{9}, join(a), []byte{4}, join(a)), 9, api.ErrForm},
		{"a last literal that belongs to a repetition", slices.Concat([]byte{8}, join(a, b), []byte{9}, join(b)), 9, api.ErrForm},
		{"literals with a zero sector", slices.Concat([]byte{12}, join(a, zero, b)), 9, api.ErrForm},
	} {
		l, err := runlength.Decode(x.b, x.most)
		if err != x.want || len(l) > 0 {
			t.Errorf("%s: got %v, %d, want the error %d", x.what, l, err, x.want)
		}
	}
}

func TestP52Bounds(t *testing.T) {
	for _, x := range []struct {
		l    []api.Sector
		most int
		want api.Errno
	}{
		{nil, 0, api.OK},
		{nil, -1, api.OK},
		{nil, math.MinInt, api.OK},
		{nil, math.MaxInt, api.OK},
		{[]api.Sector{a}, 0, api.ErrLong},
		{[]api.Sector{a}, 1, api.OK},
		{[]api.Sector{a}, math.MaxInt, api.OK},
		{repeat(zero, 4096), 4095, api.ErrLong},
		{repeat(zero, 4096), 4096, api.OK},
		{repeat(zero, 4096), 4097, api.OK},
		{different(4096), math.MaxInt, api.OK},
		{different(4097), math.MaxInt, api.ErrLong},
		{different(4097), 4097, api.ErrLong},
	} {
		want := x.l
		if x.want != api.OK {
			want = nil
		}
		if l, err := runlength.Decode(encoding(x.l), x.most); err != x.want || !slices.Equal(l, want) {
			t.Errorf("%d sectors with the bound %d: got %d sectors, %d, want the error %d", len(x.l), x.most, len(l), err, x.want)
		}
	}
}

// compare decodes a byte string and compares the result with the definition. It returns whether the string is an encoding.
func compare(t *testing.T, x []byte, most int) bool {
	t.Helper()
	l, err := runlength.Decode(x, most)
	want, wanted := decoding(x, most)
	if err != wanted || !slices.Equal(l, want) {
		t.Fatalf("Decode of %v with the bound %d: got %v, %d, want %v, %d", x, most, l, err, want, wanted)
	}
	return err == api.OK
}

// TestP52Strings decodes byte strings of heads and sectors in any order.
func TestP52Strings(t *testing.T) {
	parts := [][]byte{join(zero), join(a), join(b), join(c), join(a)[:5], {128}, {134, 0}, head(2, 40), head(1, 33), head(0, 300)}
	for n := range 17 {
		parts = append(parts, []byte{byte(n)})
	}
	next, read := random(41), 0
	for _, first := range parts {
		for _, second := range parts {
			for _, third := range parts {
				if x := slices.Concat(first, second, third); compare(t, x, next(50)) {
					read++
				}
			}
		}
	}
	for range 60000 {
		var x []byte
		for range 1 + next(8) {
			x = append(x, parts[next(len(parts))]...)
		}
		if compare(t, x, next(12)-1) {
			read++
		}
	}
	if read < 1000 {
		t.Errorf("only %d byte strings were encodings", read)
	}
}

// TestP52Changed decodes encodings with a changed, a removed or an added byte.
func TestP52Changed(t *testing.T) {
	next, read := random(5), 0
	for _, l := range lists() {
		x := encoding(l)
		if len(x) == 0 || len(x) > 2000 {
			continue
		}
		at := next(len(x))
		changed := slices.Clone(x)
		changed[at] = byte(next(20))
		for _, y := range [][]byte{changed, slices.Delete(slices.Clone(x), at, at+1), slices.Insert(slices.Clone(x), at, byte(next(14)))} {
			if compare(t, y, 4096-next(2)*next(4096)) {
				read++
			}
		}
	}
	if read < 100 {
		t.Errorf("only %d byte strings were encodings", read)
	}
}

func TestP53DecodedFromEncoding(t *testing.T) {
	for _, l := range lists() {
		if len(l) > 4096 {
			continue
		}
		x := runlength.Encode(l)
		if got, err := runlength.Decode(x, len(l)); err != api.OK || !slices.Equal(got, l) {
			t.Fatalf("%v is decoded as %v, %d", l, got, err)
		}
		if got, err := runlength.Decode(x, len(l)-1); len(l) > 0 && (err != api.ErrLong || len(got) > 0) {
			t.Fatalf("%v is decoded with a smaller bound as %v, %d", l, got, err)
		}
	}
}

// TestP53EncodingOfDecoded decodes all byte strings of up to 3 heads with their sectors, and encodes what is decoded.
func TestP53EncodingOfDecoded(t *testing.T) {
	groups := [][]byte{nil}
	for n := 1; n < 4; n++ {
		groups = append(groups, head(2, n))
		for _, s := range []api.Sector{zero, a, b} {
			groups = append(groups, slices.Concat(head(1, n), join(s)), slices.Concat(head(0, n), join(repeat(s, n)...)))
		}
	}
	groups = append(groups, slices.Concat(head(0, 2), join(a, b)), slices.Concat(head(0, 2), join(b, a)), []byte{134, 0}, []byte{7}, []byte{0})
	read := 0
	for _, first := range groups {
		for _, second := range groups {
			for _, third := range groups {
				x := slices.Concat(first, second, third)
				l, err := runlength.Decode(x, 4096)
				if err != api.OK {
					continue
				}
				read++
				if got := runlength.Encode(l); !bytes.Equal(got, x) {
					t.Fatalf("%v is decoded as %v, which is encoded as %v", x, l, got)
				}
			}
		}
	}
	if read < 100 {
		t.Errorf("only %d byte strings were encodings", read)
	}
}

func TestP53Lengths(t *testing.T) {
	for _, l := range lists() {
		if n := len(runlength.Encode(l)); n > 9*len(l) {
			t.Fatalf("the encoding of %d sectors has %d bytes", len(l), n)
		}
	}
	for n := range 4097 {
		for _, s := range []api.Sector{zero, a} {
			if got := len(runlength.Encode(repeat(s, n))); got > 11 {
				t.Fatalf("the encoding of %d equal sectors has %d bytes", n, got)
			}
		}
	}
}

// TestValues calls the functions with parts of arrays, which must stay as they are, and changes results.
func TestValues(t *testing.T) {
	whole := []api.Sector{a, b, b, zero, c, c}
	l := slices.Clone(whole)
	x := runlength.Encode(l[:4])
	runlength.Size(l[:4])
	runlength.Runs(l[:4])
	if !slices.Equal(l, whole) {
		t.Errorf("an argument or its spare capacity is changed to %v", l)
	}
	spare := append(slices.Clone(x), 9, 9, 9, 9, 9, 9, 9, 9, 9, 9)
	got, err := runlength.Decode(spare[:len(x)], 10)
	if err != api.OK || !bytes.Equal(spare[:len(x)], x) || bytes.Count(spare[len(x):], []byte{9}) != 10 {
		t.Errorf("got %d, and the argument or its spare capacity is changed to %v", err, spare)
	}
	for i := range spare {
		spare[i] ^= 255
	}
	if !slices.Equal(got, whole[:4]) {
		t.Errorf("a change of the argument changes the result to %v", got)
	}
	for i := range x {
		x[i] ^= 255
	}
	if !slices.Equal(l, whole) {
		t.Errorf("a change of the result changes the argument to %v", l)
	}
}
