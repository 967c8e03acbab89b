package volume_test

import (
	"fmt"
	"math"
	"reflect"
	"slices"
	"testing"

	"standby/api"
	"standby/disk"
	"standby/image"
	"standby/journal"
	"standby/record"
	"standby/superblock"
	"standby/volume"
)

// random returns numbers from 0 to n - 1 that look random.
func random(seed uint32) func(n int) int {
	return func(n int) int {
		seed = seed*1664525 + 1013904223
		return int(seed>>8) % n
	}
}

// list are sectors with letters; a dot is a zero sector.
func list(letters string) []api.Sector {
	var l []api.Sector
	for _, c := range []byte(letters) {
		if c == '.' {
			c = 0
		}
		l = append(l, api.Sector{0, 0, 0, 0, 0, c, 0, 0})
	}
	return l
}

// to is a write of letters.
func to(volume, start int, letters string) api.Write {
	return api.Write{Volume: volume, Start: start, Data: list(letters)}
}

// picture is the image whose volumes have letters.
func picture(volumes ...string) api.Image {
	var im api.Image
	for _, letters := range volumes {
		im = append(im, list(letters))
	}
	return im
}

func zeros(n int) []api.Sector {
	return make([]api.Sector, n)
}

func write(at int, data []api.Sector) api.Op {
	return api.Op{Kind: api.OpWrite, At: at, Data: data}
}

func sync() api.Op {
	return api.Op{Kind: api.OpSync}
}

// filled are sectors that are not zero, and belong to no record.
func filled(n int) []api.Sector {
	l := zeros(n)
	for i := range l {
		l[i] = api.Sector{0, 0, 0, 0, byte(i), 205, 206, byte(i >> 8)}
	}
	return l
}

func sameOp(a, b api.Op) bool {
	return a.Kind == b.Kind && a.At == b.At && slices.Equal(a.Data, b.Data)
}

func sameWrite(a, b api.Write) bool {
	return a.Volume == b.Volume && a.Start == b.Start && slices.Equal(a.Data, b.Data)
}

func sameJournal(a, b api.Journal) bool {
	return a.Region == b.Region && a.Head == b.Head && a.Tail == b.Tail && a.First == b.First && slices.Equal(a.Sizes, b.Sizes)
}

func same(a, b api.Store) bool {
	return slices.Equal(a.Sizes, b.Sizes) && sameJournal(a.Journal, b.Journal) && a.Data == b.Data && a.Applied == b.Applied &&
		slices.EqualFunc(a.Pending, b.Pending, sameWrite) && image.Same(a.Image, b.Image)
}

// expect reports a store, operations or an error that are not the wanted ones; beside an error the others have to be empty.
func expect(t *testing.T, what string, got api.Store, ops []api.Op, err api.Errno, want api.Store, wanted []api.Op, code api.Errno) {
	t.Helper()
	if err != code || !same(got, want) || !slices.EqualFunc(ops, wanted, sameOp) {
		t.Errorf("%s: got %s, %s, %d, want %s, %s, %d", what, brief(got), brief(ops), err, brief(want), brief(wanted), code)
	}
}

// brief is the beginning of the text of a value.
func brief(value any) string {
	text := fmt.Sprint(value)
	return text[:min(len(text), 500)]
}

func expectError(t *testing.T, what string, got api.Store, ops []api.Op, err api.Errno, code api.Errno) {
	t.Helper()
	expect(t, what, got, ops, err, api.Store{}, nil, code)
}

// total is the number of sectors of volumes.
func total(sizes []int) int {
	sum := 0
	for _, size := range sizes {
		sum += size
	}
	return sum
}

// blank is the image of zeros.
func blank(sizes []int) api.Image {
	var im api.Image
	for _, size := range sizes {
		im = append(im, zeros(size))
	}
	return im
}

// journalOf is a journal at the beginning of a disk, whose Tail is what follows from the other numbers.
func journalOf(count, head, first int, sizes ...int) api.Journal {
	return api.Journal{Region: api.Region{Count: count}, Head: head, Tail: (head + total(sizes)) % (count - 16), First: first, Sizes: sizes}
}

// storeOf is a store with a journal, whose other numbers are what follows from these.
func storeOf(j api.Journal, im api.Image, pending ...api.Write) api.Store {
	s := api.Store{Journal: j, Data: j.Region.Count, Applied: j.First - 1, Pending: pending, Image: im}
	for _, sectors := range im {
		s.Sizes = append(s.Sizes, len(sectors))
	}
	return s
}

// pending is a store with four writes in its journal and older contents in its volumes.
func pending() api.Store {
	return storeOf(journalOf(60, 20, 7, 5, 7, 5, 5), picture("xabc", "cy"), to(0, 1, "a"), to(0, 2, "bz"), to(1, 0, "c"), to(0, 3, "c"))
}

// inOrder are stores that are in order.
func inOrder() []api.Store {
	return []api.Store{
		pending(),
		storeOf(journalOf(20, 0, 1), picture(".")),
		storeOf(journalOf(20, 3, 1), picture("a", "bc", "...")),
		storeOf(journalOf(30, 0, 1), picture("....", "..")),
		storeOf(journalOf(30, 13, api.MaxTime), picture("ab.d", "x.")),
		storeOf(journalOf(30, 13, api.MaxTime-2, 5, 6), picture("ab.d", "x."), to(0, 0, "ab"), to(1, 1, ".")),
		// The later write to a sector counts.
		storeOf(journalOf(30, 2, 3, 5, 5), picture("abcd", "xy"), to(1, 0, "a"), to(1, 0, "x")),
		// How long a record is does not depend on its write, as far as Check sees.
		storeOf(journalOf(30, 2, 3, 2, 9), picture("abcd", "xy"), to(0, 0, "abcd"), to(1, 1, "y")),
		storeOf(journalOf(4088, 0, 1), picture("a", "b", "c", "d", "e", "f", "g", "h")),
		storeOf(journalOf(20, 0, 1), blank([]int{4076})),
		storeOf(journalOf(3096, 3079, 5, 2, 1026, 1026), api.Image{filled(1), filled(999)}, api.Write{Volume: 1, Data: filled(999)}, api.Write{Data: filled(1)}, api.Write{Volume: 1, Start: 1, Data: filled(999)[1:]}),
	}
}

// wrongSizes are sizes that are not correct, with the error of image.New.
func wrongSizes() map[api.Errno][][]int {
	return map[api.Errno][][]int{
		api.ErrMany:  {nil, {}, slices.Repeat([]int{1}, 9), slices.Repeat([]int{0}, 9), slices.Repeat([]int{math.MaxInt}, 20)},
		api.ErrRange: {{0}, {-1}, {4097}, {3, 0}, {0, 3}, {math.MaxInt}, {1, math.MinInt}, {math.MaxInt, math.MaxInt}, {1, 2, 3, 4, 5, 6, 7, 4097}},
	}
}

func TestP191Size(t *testing.T) {
	check := func(sizes []int, journal, want int, code api.Errno) {
		t.Helper()
		if got, err := volume.Size(sizes, journal); got != want || err != code {
			t.Errorf("Size of %v and %d: got %d, %d, want %d, %d", sizes, journal, got, err, want, code)
		}
	}
	check([]int{4, 2}, 30, 36, api.OK)
	check([]int{1}, 20, 21, api.OK)
	check([]int{1}, 4095, 4096, api.OK)
	check([]int{4076}, 20, 4096, api.OK)
	check([]int{1, 2, 3, 4, 5, 6, 7, 8}, 21, 57, api.OK)
	check(slices.Repeat([]int{500}, 8), 96, 4096, api.OK)
	for code, all := range wrongSizes() {
		for _, sizes := range all {
			for _, journal := range []int{30, 19, 0, -1, math.MinInt, math.MaxInt} {
				check(sizes, journal, 0, code)
			}
		}
	}
	for _, journal := range []int{19, 1, 0, -1, -30, math.MinInt, math.MinInt + 5, 4091, 4096, 5000, math.MaxInt, math.MaxInt - 5} {
		check([]int{4, 2}, journal, 0, api.ErrRange)
	}
	check([]int{1}, 4096, 0, api.ErrRange)
	check([]int{4077}, 20, 0, api.ErrRange)
	check([]int{4076, 1}, 20, 0, api.ErrRange)
	check([]int{4096}, 20, 0, api.ErrRange)
	check(slices.Repeat([]int{4096}, 8), 20, 0, api.ErrRange)
	check(slices.Repeat([]int{4096}, 8), -30000, 0, api.ErrRange)
	check(slices.Repeat([]int{500}, 8), 97, 0, api.ErrRange)
}

func TestP191Format(t *testing.T) {
	for _, sizes := range [][]int{{4, 2}, {1}, {3, 1, 2}, {1, 2, 3, 4, 5, 6, 7, 8}, {4000}} {
		for _, count := range []int{20, 30, 77, 96} {
			got, ops, err := volume.Format(sizes, count)
			j, ring, _ := journal.Format(api.Region{Count: count})
			want := api.Store{Sizes: sizes, Journal: j, Data: count, Applied: 0, Image: blank(sizes)}
			expect(t, "Format", got, ops, err, want, slices.Concat([]api.Op{write(count, zeros(total(sizes))), sync()}, ring), api.OK)
			if err := volume.Check(got); err != api.OK {
				t.Errorf("Check of a formatted store: got %d", err)
			}
		}
	}
	for code, all := range wrongSizes() {
		for _, sizes := range all {
			for _, count := range []int{30, 19, math.MaxInt} {
				got, ops, err := volume.Format(sizes, count)
				expectError(t, "Format with wrong sizes", got, ops, err, code)
			}
		}
	}
	for _, count := range []int{19, 0, -1, math.MinInt, math.MaxInt, 4091} {
		got, ops, err := volume.Format([]int{4, 2}, count)
		expectError(t, "Format with a wrong journal", got, ops, err, api.ErrRange)
	}
}

// fault makes a store that is like pending wrong.
type fault struct {
	name  string
	err   api.Errno
	spoil func(s *api.Store)
}

// wrongWrites are writes that do not fit the sizes 4 and 2, with the errors of image.Fits.
func wrongWrites() map[api.Errno][]api.Write {
	return map[api.Errno][]api.Write{
		api.ErrNone:  {to(2, 0, "a"), to(-1, 0, "a"), to(math.MaxInt, 0, ""), to(math.MinInt, -1, "a")},
		api.ErrArg:   {to(0, 0, ""), to(1, 1, ""), to(0, -1, ""), to(1, math.MaxInt, "")},
		api.ErrRange: {to(0, 4, "a"), to(0, -1, "a"), to(1, 2, "a"), to(1, 3, "x"), to(0, 0, "abcde"), to(0, 3, "ab"), to(1, math.MaxInt, "a"), to(1, math.MinInt, "a"), {Data: zeros(5000)}},
	}
}

// faults are in the order in which Check finds them; those of one step stand in one list.
func faults() [][]fault {
	var sizes, writes []fault
	for code, all := range wrongSizes() {
		for _, l := range all {
			sizes = append(sizes, fault{"Sizes", code, func(s *api.Store) { s.Sizes = l }})
		}
	}
	for code, all := range wrongWrites() {
		for _, w := range all {
			for i := range 4 {
				writes = append(writes, fault{"a Pending write", code, func(s *api.Store) { s.Pending[i] = w }})
			}
		}
	}
	return [][]fault{
		sizes,
		{
			{"no Journal", api.ErrForm, func(s *api.Store) { s.Journal = api.Journal{} }},
			{"Tail", api.ErrForm, func(s *api.Store) { s.Journal.Tail++ }},
			{"Head", api.ErrForm, func(s *api.Store) { s.Journal.Head = -1 }},
			{"First", api.ErrForm, func(s *api.Store) { s.Journal.First = 0 }},
			{"a small Region", api.ErrForm, func(s *api.Store) { s.Journal.Region.Count = 19 }},
			{"a large Region", api.ErrForm, func(s *api.Store) { s.Journal.Region.Count = math.MaxInt }},
			{"a negative Region", api.ErrForm, func(s *api.Store) { s.Journal.Region.Start = -1 }},
			{"Sizes of the Journal", api.ErrForm, func(s *api.Store) { s.Journal.Sizes[1]-- }},
		},
		{
			{"Start", api.ErrRange, func(s *api.Store) { s.Journal.Region.Start = 1 }},
			{"a far Start", api.ErrRange, func(s *api.Store) { s.Journal.Region.Start = 4036 }},
			{"Data", api.ErrRange, func(s *api.Store) { s.Data = 59 }},
			{"Data behind a gap", api.ErrRange, func(s *api.Store) { s.Data = 61 }},
			{"no Data", api.ErrRange, func(s *api.Store) { s.Data = 0 }},
			{"negative Data", api.ErrRange, func(s *api.Store) { s.Data = math.MinInt }},
			{"large Data", api.ErrRange, func(s *api.Store) { s.Data = math.MaxInt }},
			{"the sum", api.ErrRange, func(s *api.Store) { s.Sizes = []int{4, 4033} }},
			{"a large sum", api.ErrRange, func(s *api.Store) { s.Sizes = slices.Repeat([]int{4096}, 8) }},
		},
		{
			{"Applied", api.ErrForm, func(s *api.Store) { s.Applied = 7 }},
			{"lesser Applied", api.ErrForm, func(s *api.Store) { s.Applied = 5 }},
			{"Applied with all records", api.ErrForm, func(s *api.Store) { s.Applied = 10 }},
			{"negative Applied", api.ErrForm, func(s *api.Store) { s.Applied = math.MinInt }},
			{"large Applied", api.ErrForm, func(s *api.Store) { s.Applied = math.MaxInt }},
			{"a Pending write too few", api.ErrForm, func(s *api.Store) { s.Pending = s.Pending[:3] }},
			{"no Pending write", api.ErrForm, func(s *api.Store) { s.Pending = nil }},
			{"a Pending write too many", api.ErrForm, func(s *api.Store) { s.Pending = append(s.Pending, s.Pending[3]) }},
		},
		writes,
		{
			{"no Image", api.ErrMismatch, func(s *api.Store) { s.Image = nil }},
			{"an Image with too few volumes", api.ErrMismatch, func(s *api.Store) { s.Image = s.Image[:1] }},
			{"an Image with too many volumes", api.ErrMismatch, func(s *api.Store) { s.Image = append(s.Image, list("a")) }},
			{"an Image with other sizes", api.ErrMismatch, func(s *api.Store) { s.Image[1] = list("c") }},
			{"an Image with larger volumes", api.ErrMismatch, func(s *api.Store) { s.Image[0] = list("xabc.") }},
			{"an Image with an empty volume", api.ErrMismatch, func(s *api.Store) { s.Image[1] = nil }},
			{"an Image that lacks a write", api.ErrMismatch, func(s *api.Store) { s.Image = picture("xab.", "cy") }},
			{"an Image with an earlier write", api.ErrMismatch, func(s *api.Store) { s.Image = picture("xabz", "cy") }},
			{"another Image", api.ErrMismatch, func(s *api.Store) { s.Image = picture("x.bc", "cy") }},
			{"another Image of the last volume", api.ErrMismatch, func(s *api.Store) { s.Image = picture("xabc", "yc") }},
		},
	}
}

// wrongStore is a store that is not in order, with the error of Check.
type wrongStore struct {
	name string
	s    api.Store
	err  api.Errno
}

// wrongStores are stores with one fault, and with two of different steps, the first of which decides.
func wrongStores() []wrongStore {
	l := []wrongStore{{"the zero store", api.Store{}, api.ErrMany}}
	spoilt := func(name string, err api.Errno, fs ...fault) {
		s := pending()
		for _, f := range fs {
			f.spoil(&s)
		}
		l = append(l, wrongStore{name, s, err})
	}
	steps := faults()
	for i, step := range steps {
		for _, f := range step {
			spoilt(f.name, f.err, f)
			for _, later := range slices.Concat(steps[i+1:]...) {
				// The later fault first, since the earlier one may remove what it changes.
				spoilt(f.name+" and "+later.name, f.err, later, f)
			}
		}
	}
	return l
}

func TestP191Check(t *testing.T) {
	for i, s := range inOrder() {
		if err := volume.Check(s); err != api.OK {
			t.Errorf("Check of store %d: got %d", i, err)
		}
	}
	for _, w := range wrongStores() {
		if err := volume.Check(w.s); err != w.err {
			t.Errorf("Check of a store with a wrong part, %s: got %d, want %d", w.name, err, w.err)
		}
	}
	// The first write that does not fit decides.
	s := pending()
	s.Pending[1], s.Pending[2] = to(2, 0, "a"), to(0, 0, "")
	if err := volume.Check(s); err != api.ErrNone {
		t.Errorf("Check of a store with two writes that do not fit: got %d", err)
	}
	s.Pending[0] = to(1, 1, "ab")
	if err := volume.Check(s); err != api.ErrRange {
		t.Errorf("Check of a store with three writes that do not fit: got %d", err)
	}
	limit := storeOf(journalOf(4090, 0, 1), picture("....", ".."))
	if err := volume.Check(limit); err != api.OK {
		t.Errorf("Check of a store with all sectors of a disk: got %d", err)
	}
	limit = storeOf(journalOf(4091, 0, 1), picture("....", ".."))
	if err := volume.Check(limit); err != api.ErrRange {
		t.Errorf("Check of a store that is too large: got %d", err)
	}
}

// number is the encoding of a number less than 16384.
func number(n int) []byte {
	if n < 128 {
		return []byte{byte(n)}
	}
	return []byte{byte(n%128 + 128), byte(n / 128)}
}

// payload is the encoding of a list with one write.
func payload(w api.Write) []byte {
	b := slices.Concat([]byte{1}, number(w.Volume), number(w.Start), number(len(w.Data)))
	for _, s := range w.Data {
		b = append(b, s[:]...)
	}
	return b
}

// replaced is an image behind a write, sector by sector.
func replaced(im api.Image, w api.Write) api.Image {
	var after api.Image
	for _, sectors := range im {
		after = append(after, slices.Clone(sectors))
	}
	for i, s := range w.Data {
		after[w.Volume][w.Start+i] = s
	}
	return after
}

// expectWrite compares Write of a write that fits, and has room in the journal, with the definitions.
func expectWrite(t *testing.T, s api.Store, w api.Write) {
	t.Helper()
	j, wanted, err := journal.Append(s.Journal, 1, payload(w))
	if err != api.OK {
		t.Fatalf("Append: got %d", err)
	}
	want := storeOf(j, replaced(s.Image, w), append(slices.Clone(s.Pending), w)...)
	got, sequence, ops, err := volume.Write(s, w)
	expect(t, "Write", got, ops, err, want, wanted, api.OK)
	if sequence != s.Journal.First+len(s.Journal.Sizes) {
		t.Errorf("Write: got the sequence number %d", sequence)
	}
	if err := volume.Check(got); err != api.OK {
		t.Errorf("Check behind Write: got %d", err)
	}
}

// expectNoWrite reports a Write without the wanted error.
func expectNoWrite(t *testing.T, what string, s api.Store, w api.Write, code api.Errno) {
	t.Helper()
	got, sequence, ops, err := volume.Write(s, w)
	expectError(t, what, got, ops, err, code)
	if sequence != 0 {
		t.Errorf("%s: got the sequence number %d", what, sequence)
	}
}

func TestP191Write(t *testing.T) {
	for _, s := range inOrder() {
		for v, size := range s.Sizes {
			for start := range min(size, 6) {
				for count := 1; count <= min(size-start, 6); count++ {
					w := api.Write{Volume: v, Start: start, Data: filled(40 + count)[40:]}
					if record.Size(len(payload(w))) <= journal.Free(s.Journal) && journal.Next(s.Journal) < api.MaxTime {
						expectWrite(t, s, w)
					}
				}
			}
		}
	}
	// Numbers with several bytes, and the longest payload.
	big := storeOf(journalOf(2096, 2000, 9, 7), api.Image{filled(300), filled(1700)}, api.Write{Data: filled(1)})
	for _, w := range []api.Write{{Volume: 1, Start: 1699, Data: filled(1)}, {Volume: 1, Start: 127, Data: filled(127)}, {Volume: 1, Start: 128, Data: filled(128)}, {Start: 0, Data: filled(300)}, {Volume: 1, Data: filled(511)}, {Volume: 1, Start: 1189, Data: filled(511)}} {
		expectWrite(t, big, w)
	}
	expectWrite(t, storeOf(journalOf(30, 3, api.MaxTime-1), picture("....", "ab")), to(1, 0, "x"))
	expectWrite(t, storeOf(journalOf(21, 3, 1), picture("....", "ab")), to(1, 0, "x"))
}

func TestP191WriteErrors(t *testing.T) {
	for _, w := range wrongStores() {
		for _, x := range []api.Write{to(0, 0, "a"), to(9, 0, "")} {
			expectNoWrite(t, "Write to a store with a wrong part, "+w.name, w.s, x, w.err)
		}
	}
	// A full journal and one without further numbers, too: a write that does not fit is found first.
	last := storeOf(journalOf(20, 0, api.MaxTime), picture("....", ".."))
	for _, s := range []api.Store{pending(), storeOf(journalOf(30, 0, 1), picture("....", "..")), storeOf(journalOf(20, 0, 1), picture("....", "..")), last} {
		for code, writes := range wrongWrites() {
			for _, w := range writes {
				expectNoWrite(t, "Write of a wrong write", s, w, code)
			}
		}
	}
	// Then a payload that is too long, then the numbers, and then the room in the journal.
	long := func(n int) api.Write { return api.Write{Start: 3, Data: filled(n)} }
	im, old := api.Image{filled(700)}, api.Write{Data: filled(1)}
	for _, first := range []int{1, api.MaxTime} {
		for _, count := range []int{20, 3000} {
			for _, n := range []int{512, 513, 697} {
				expectNoWrite(t, "Write of too many sectors", storeOf(journalOf(count, 0, first), im), long(n), api.ErrLong)
			}
		}
	}
	expectWrite(t, storeOf(journalOf(3000, 0, 1), im), long(511))
	for _, n := range []int{1, 511} {
		for _, count := range []int{20, 3000} {
			expectNoWrite(t, "Write behind the last number", storeOf(journalOf(count, 0, api.MaxTime), im), long(n), api.ErrMany)
			expectNoWrite(t, "Write behind the last number", storeOf(journalOf(count, 0, api.MaxTime-1, 4), im, old), long(n), api.ErrMany)
		}
	}
	expectNoWrite(t, "Write to a small journal", storeOf(journalOf(20, 0, 1), im), long(1), api.ErrFull)
	expectNoWrite(t, "Write to a full journal", storeOf(journalOf(25, 4, 3, 5), im, old), long(1), api.ErrFull)
	expectWrite(t, storeOf(journalOf(26, 4, 3, 5), im, old), long(1))
	expectNoWrite(t, "Write of two sectors", storeOf(journalOf(26, 4, 3, 5), im, old), long(2), api.ErrFull)
}

func TestP191Example1(t *testing.T) {
	s, _, err := volume.Format([]int{4, 2}, 30)
	if size, _ := volume.Size([]int{4, 2}, 30); size != 36 || err != api.OK {
		t.Errorf("a disk of %d sectors, %d", size, err)
	}
	x := api.Sector{11, 12, 13, 14, 15, 16, 17, 18}
	expectNoWrite(t, "Write at 3 of volume 1", s, api.Write{Volume: 1, Start: 3, Data: []api.Sector{x}}, api.ErrRange)
	after, sequence, ops, err := volume.Write(s, api.Write{Volume: 1, Start: 1, Data: []api.Sector{x}})
	if err != api.OK || sequence != 1 || len(ops) != 2 || len(ops[0].Data) != 5 {
		t.Fatalf("Write at 1 of volume 1: got %v, %d, %v, %d", after, sequence, ops, err)
	}
	r, _, err := record.Decode(ops[0].Data)
	if err != api.OK || r.Kind != 1 || r.Sequence != 1 || !slices.Equal(r.Payload, []byte{1, 1, 1, 1, 11, 12, 13, 14, 15, 16, 17, 18}) {
		t.Errorf("the record: got %v, %d", r, err)
	}
}

// run executes all operations.
func run(t *testing.T, d api.Disk, ops []api.Op) api.Disk {
	t.Helper()
	after, n, err := disk.Run(d, ops)
	if err != api.OK {
		t.Fatalf("operation %d of %v: got %d", n, ops, err)
	}
	return after
}

// text is the payload of the superblock of a journal.
func text(head, first int) []byte {
	b := number(head)
	for ; first >= 128; first /= 128 {
		b = append(b, byte(first%128+128))
	}
	return append(b, byte(first))
}

// sectorsOf are the sectors of a record.
func sectorsOf(kind, sequence int, payload []byte) []api.Sector {
	l, _ := record.Encode(api.Record{Kind: kind, Sequence: sequence, Payload: payload})
	return l
}

// holding is a disk of some sectors with a journal of count sectors, whose records stand one behind the other, around the end of the ring, and with a data area behind it.
func holding(size, count, head, first int, records [][]api.Sector, data api.Image) api.Disk {
	d := api.Disk{Stable: filled(size)}
	ops, _ := superblock.Format(0, text(head, first))
	d, _, _ = disk.Run(d, ops)
	for i, s := range slices.Concat(records...) {
		d.Stable[16+(head+i)%(count-16)] = s
	}
	copy(d.Stable[count:], slices.Concat(data...))
	return d
}

// flushed are the operations that Flush has to return for a store with Pending writes.
func flushed(t *testing.T, d api.Disk, s api.Store) []api.Op {
	t.Helper()
	var ops []api.Op
	for _, w := range s.Pending {
		at := s.Data + w.Start
		for _, size := range s.Sizes[:w.Volume] {
			at += size
		}
		ops = append(ops, write(at, w.Data))
	}
	_, release, err := journal.Release(d, s.Journal, s.Journal.First+len(s.Journal.Sizes)-1)
	if err != api.OK {
		t.Fatalf("Release: got %d", err)
	}
	return slices.Concat(ops, []api.Op{sync()}, release)
}

func TestP192Flush(t *testing.T) {
	for _, s := range inOrder() {
		size := s.Data + total(s.Sizes)
		next := s.Journal.First + len(s.Journal.Sizes)
		want := storeOf(journalOf(s.Journal.Region.Count, s.Journal.Tail, next), s.Image)
		for _, more := range []int{0, 1, 100} {
			d := holding(min(size+more, api.MaxSectors), s.Data, s.Journal.Head, s.Journal.First, nil, nil)
			var wanted []api.Op
			if len(s.Pending) > 0 {
				wanted = flushed(t, d, s)
			}
			got, ops, err := volume.Flush(d, s)
			expect(t, "Flush", got, ops, err, want, wanted, api.OK)
			if err := volume.Check(got); err != api.OK {
				t.Errorf("Check behind Flush: got %d", err)
			}
			got, ops, err = volume.Flush(run(t, d, ops), got)
			expect(t, "Flush again", got, ops, err, want, nil, api.OK)
		}
	}
	d := holding(70, 60, 20, 7, nil, nil)
	_, ops, _ := volume.Flush(d, pending())
	wanted := []api.Op{write(61, list("a")), write(62, list("bz")), write(64, list("c")), write(63, list("c")), sync()}
	if len(ops) != 7 || !slices.EqualFunc(ops[:5], wanted, sameOp) {
		t.Errorf("Flush: got %v", ops)
	}
}

// wrongDisks are disks that disk.Check refuses.
func wrongDisks() []api.Disk {
	good := holding(60, 30, 0, 1, nil, nil).Stable
	return []api.Disk{
		{Stable: slices.Concat(good, filled(api.MaxSectors))},
		{Stable: good, Cache: []api.Cached{{At: 60}}},
		{Stable: good, Cache: []api.Cached{{At: 3}, {At: -1}}},
	}
}

func TestP192FlushErrors(t *testing.T) {
	s := pending()
	good := holding(80, 60, 20, 7, nil, nil)
	for _, d := range wrongDisks() {
		for _, x := range []api.Store{s, {}} {
			got, ops, err := volume.Flush(d, x)
			expectError(t, "Flush to a wrong disk", got, ops, err, api.ErrRange)
		}
	}
	for _, w := range wrongStores() {
		for _, d := range []api.Disk{good, {}} {
			got, ops, err := volume.Flush(d, w.s)
			expectError(t, "Flush of a store with a wrong part, "+w.name, got, ops, err, w.err)
		}
	}
	empty := storeOf(journalOf(60, 20, 7), s.Image)
	none := api.Disk{Stable: filled(80)}
	last := run(t, good, []api.Op{write(8, slices.Repeat([]api.Sector{{255, 255, 255, 255}}, 8)), sync()})
	for _, size := range []int{0, 1, 59, 60, 65} {
		for _, d := range []api.Disk{good, none, last} {
			for _, x := range []api.Store{s, empty} {
				got, ops, err := volume.Flush(api.Disk{Stable: d.Stable[:size]}, x)
				expectError(t, "Flush to a small disk", got, ops, err, api.ErrRange)
			}
		}
	}
	for _, size := range []int{66, 80} {
		got, ops, err := volume.Flush(api.Disk{Stable: none.Stable[:size]}, s)
		expectError(t, "Flush without a superblock", got, ops, err, api.ErrChecksum)
		got, ops, err = volume.Flush(api.Disk{Stable: last.Stable[:size]}, s)
		expectError(t, "Flush behind the last generation", got, ops, err, api.ErrFull)
		// Where nothing is released, nothing is stored.
		for _, d := range []api.Disk{none, last} {
			got, ops, err = volume.Flush(api.Disk{Stable: d.Stable[:size]}, empty)
			expect(t, "Flush of nothing", got, ops, err, empty, nil, api.OK)
		}
	}
}

func TestP192Example2(t *testing.T) {
	s, ops, _ := volume.Format([]int{4, 2}, 30)
	d := run(t, api.Disk{Stable: filled(36)}, ops)
	s, _, ops, _ = volume.Write(s, to(1, 1, "x"))
	d = run(t, d, ops)
	_, ops, err := volume.Flush(d, s)
	if err != api.OK || len(ops) != 4 || !sameOp(ops[0], write(35, list("x"))) || !sameOp(ops[1], sync()) {
		t.Errorf("Flush: got %v, %d", ops, err)
	}
}

// recordsOf are the records of writes, with the numbers from first on.
func recordsOf(first int, writes ...api.Write) [][]api.Sector {
	var l [][]api.Sector
	for i, w := range writes {
		l = append(l, sectorsOf(1, first+i, payload(w)))
	}
	return l
}

// expectOpen compares Open of a disk with the wanted results.
func expectOpen(t *testing.T, what string, d api.Disk, sizes []int, count int, want api.Store, wanted []api.Op) {
	t.Helper()
	got, ops, err := volume.Open(d, sizes, count)
	expect(t, what, got, ops, err, want, wanted, api.OK)
	if err := volume.Check(got); err != api.OK {
		t.Errorf("%s: Check behind Open: got %d", what, err)
	}
}

func TestP192Open(t *testing.T) {
	sizes := []int{4, 2}
	data := picture("pqrs", "uv")
	for head := range 24 {
		for _, first := range []int{1, 2, 200, 70000, api.MaxTime - 3} {
			for n, want := range []api.Image{data, picture("paas", "uv"), picture("pabc", "uv"), picture("pabc", "ux")} {
				writes := []api.Write{to(0, 1, "aa"), to(0, 2, "bc"), to(1, 1, "x")}[:n]
				d := holding(46+head%3, 40, head, first, recordsOf(first, writes...), data)
				var lengths []int
				for _, w := range writes {
					lengths = append(lengths, record.Size(len(payload(w))))
				}
				expectOpen(t, "Open", d, sizes, 40, storeOf(journalOf(40, head, first, lengths...), want, writes...), nil)
			}
		}
	}
	// A record in the cache, a changed data area in the cache, and sectors that an interrupted Append has left.
	d := holding(46, 40, 3, 5, recordsOf(5, to(1, 0, "ab")), data)
	for i, s := range sectorsOf(1, 6, payload(to(0, 3, "c"))) {
		d.Cache = append(d.Cache, api.Cached{At: 16 + 10 + i, Data: s})
	}
	d.Cache = append(d.Cache, api.Cached{At: 40, Data: list("z")[0]}, api.Cached{At: 44, Data: list("z")[0]}, api.Cached{At: 43, Data: list("z")[0]})
	d.Stable[16+16], d.Stable[16+18] = api.Sector{7}, api.Sector{9, 9}
	want := storeOf(journalOf(40, 3, 5, 7, 5), picture("zqrc", "ab"), to(1, 0, "ab"), to(0, 3, "c"))
	expectOpen(t, "Open of a cache", d, sizes, 40, want, []api.Op{write(32, zeros(1)), write(34, zeros(1)), sync()})
	// All sectors of a disk, and volumes that a record does not fit into the payload of.
	large := api.Image{filled(3000), filled(1), filled(1075)}
	expectOpen(t, "Open of a whole disk", holding(4096, 20, 0, 1, nil, large), []int{3000, 1, 1075}, 20, storeOf(journalOf(20, 0, 1), large), nil)
}

func TestP192OpenErrors(t *testing.T) {
	check := func(what string, d api.Disk, sizes []int, count int, code api.Errno) {
		t.Helper()
		got, ops, err := volume.Open(d, sizes, count)
		expectError(t, what, got, ops, err, code)
	}
	good := holding(36, 30, 0, 1, nil, picture("....", ".."))
	expectOpen(t, "a good disk", good, []int{4, 2}, 30, storeOf(journalOf(30, 0, 1), picture("....", "..")), nil)
	for _, d := range wrongDisks() {
		check("a wrong disk", d, []int{4, 2}, 30, api.ErrRange)
		check("a wrong disk without sizes", d, nil, 30, api.ErrRange)
	}
	for _, d := range []api.Disk{good, {}, {Stable: filled(36)}} {
		for code, all := range wrongSizes() {
			for _, sizes := range all {
				check("wrong sizes", d, sizes, 30, code)
				check("wrong sizes and journal", d, sizes, 19, code)
			}
		}
		for _, count := range []int{19, 0, -1, 4091, math.MinInt, math.MaxInt} {
			check("a wrong journal", d, []int{4, 2}, count, api.ErrRange)
		}
		check("a large journal", d, []int{4, 2}, 31, api.ErrRange)
		check("large volumes", d, []int{4, 3}, 30, api.ErrRange)
	}
	for _, size := range []int{0, 16, 30, 35} {
		check("a small disk", api.Disk{Stable: good.Stable[:size]}, []int{4, 2}, 30, api.ErrRange)
	}
	check("no superblock", api.Disk{Stable: filled(36)}, []int{4, 2}, 30, api.ErrChecksum)
	for _, b := range [][]byte{nil, {0}, text(14, 1), text(0, 0), {0, 1, 0}, text(0, api.MaxTime+1)} {
		ops, _ := superblock.Format(0, b)
		check("a wrong superblock", run(t, good, ops), []int{4, 2}, 30, api.ErrForm)
	}
}

// wrongRecords are records with the number 1 that no write to volumes of the sizes 4 and 2 is kept in, with the errors of Open.
func wrongRecords() map[api.Errno][][]api.Sector {
	l := map[api.Errno][][]api.Sector{}
	for code, writes := range wrongWrites() {
		for _, w := range writes {
			if w.Volume >= 0 && w.Volume < 9 && w.Start >= 0 && w.Start < 9 && len(w.Data) < 9 {
				l[code] = append(l[code], sectorsOf(1, 1, payload(w)))
			}
		}
	}
	good := payload(to(1, 0, "a"))
	for kind := 2; kind < 256; kind += 23 {
		l[api.ErrForm] = append(l[api.ErrForm], sectorsOf(kind, 1, good))
	}
	for n := range good {
		l[api.ErrForm] = append(l[api.ErrForm], sectorsOf(1, 1, good[:n]))
	}
	two := slices.Concat([]byte{2}, good[1:], good[1:])
	for _, b := range [][]byte{
		{0}, two, two[:20], slices.Concat(good, []byte{0}), slices.Concat(good, good), slices.Concat([]byte{0}, good), slices.Concat([]byte{129, 0}, good[1:]), slices.Concat([]byte{1, 129, 0}, good[2:]),
		{1, 0, 0, 255, 255, 255, 1}, {255, 255, 255, 255, 255, 255, 255, 255}, slices.Concat([]byte{2}, payload(to(7, 0, "a"))[1:], good[1:]),
		// A wrong payload is found before a write that does not fit.
		slices.Concat(payload(to(7, 0, "a")), []byte{0}),
	} {
		l[api.ErrForm] = append(l[api.ErrForm], sectorsOf(1, 1, b))
	}
	l[api.ErrForm] = append(l[api.ErrForm], sectorsOf(3, 1, payload(to(7, 0, "a"))))
	return l
}

func TestP192OpenWrongRecords(t *testing.T) {
	data := picture("....", "..")
	numbered := func(l []api.Sector, n int) []api.Sector {
		r, _, _ := record.Decode(l)
		return sectorsOf(r.Kind, n, r.Payload)
	}
	wrong := wrongRecords()
	for code, all := range wrong {
		for _, l := range all {
			good := func(n int) []api.Sector { return sectorsOf(1, n, payload(to(0, 3, "a"))) }
			for _, records := range [][][]api.Sector{{l}, {good(1), numbered(l, 2)}, {l, good(2)}, {good(1), numbered(l, 2), good(3)}} {
				got, ops, err := volume.Open(holding(106, 100, 1, 1, records, data), []int{4, 2}, 100)
				expectError(t, "a wrong record", got, ops, err, code)
			}
			for other := range wrong {
				second := numbered(wrong[other][0], 3)
				got, ops, err := volume.Open(holding(106, 100, 1, 1, [][]api.Sector{good(1), numbered(l, 2), second}, data), []int{4, 2}, 100)
				expectError(t, "two wrong records", got, ops, err, code)
			}
			// What stands behind a gap is no record of the journal.
			want := storeOf(journalOf(100, 1, 1, 5), picture("...a", ".."), to(0, 3, "a"))
			got, _, err := volume.Open(holding(106, 100, 1, 1, [][]api.Sector{good(1), numbered(l, 3)}, data), []int{4, 2}, 100)
			expect(t, "a wrong record behind a gap", got, nil, err, want, nil, api.OK)
		}
	}
	if len(wrong[api.ErrNone]) < 1 || len(wrong[api.ErrArg]) < 2 || len(wrong[api.ErrRange]) < 5 {
		t.Errorf("too few wrong records: %v", wrong)
	}
}

func TestP192Read(t *testing.T) {
	s := pending()
	contents := picture("xabc", "cy")
	for v, sectors := range contents {
		for start := range len(sectors) + 1 {
			for count := range len(sectors) - start + 1 {
				got, err := volume.Read(s, v, api.Extent{Start: start, Count: count})
				if err != api.OK || !slices.Equal(got, sectors[start:start+count]) {
					t.Errorf("Read of %d from %d on in volume %d: got %v, %d", count, start, v, got, err)
				}
			}
		}
	}
	check := func(what string, s api.Store, v int, e api.Extent, code api.Errno) {
		t.Helper()
		if got, err := volume.Read(s, v, e); err != code || len(got) > 0 {
			t.Errorf("%s: got %v, %d, want %d", what, got, err, code)
		}
	}
	for _, v := range []int{-1, 2, 3, math.MinInt, math.MaxInt} {
		for _, e := range []api.Extent{{}, {Start: -1}, {Count: 9}} {
			check("Read of no volume", s, v, e, api.ErrNone)
		}
	}
	for _, e := range []api.Extent{{Start: -1, Count: 1}, {Start: 1, Count: -1}, {Count: 5}, {Start: 4, Count: 1}, {Start: 5}, {Start: 1, Count: math.MaxInt}, {Start: math.MaxInt, Count: math.MaxInt}, {Start: math.MinInt, Count: math.MinInt}} {
		check("Read of a wrong extent", s, 0, e, api.ErrRange)
	}
	check("Read of a smaller volume", s, 1, api.Extent{Start: 1, Count: 2}, api.ErrRange)
	for _, w := range wrongStores() {
		check("Read of a store with a wrong part, "+w.name, w.s, 9, api.Extent{Start: -1}, w.err)
	}
}

// state is a disk with a store, and all writes to it.
type state struct {
	d      api.Disk
	s      api.Store
	count  int
	writes []api.Write
}

// begin is a disk with a new store.
func begin(t *testing.T, sizes []int, count, more int) state {
	t.Helper()
	s, ops, err := volume.Format(sizes, count)
	if err != api.OK {
		t.Fatalf("Format: got %d", err)
	}
	return state{d: run(t, api.Disk{Stable: filled(count + total(sizes) + more)}, ops), s: s, count: count}
}

// write is the state behind a write, with its operations; the disk is as before.
func (x state) write(t *testing.T, w api.Write) (state, []api.Op) {
	t.Helper()
	s, _, ops, err := volume.Write(x.s, w)
	if err != api.OK {
		t.Fatalf("Write: got %d", err)
	}
	x.s, x.writes = s, append(slices.Clip(x.writes), w)
	return x, ops
}

// flush is the state behind Flush, with its operations; the disk is as before.
func (x state) flush(t *testing.T) (state, []api.Op) {
	t.Helper()
	s, ops, err := volume.Flush(x.d, x.s)
	if err != api.OK {
		t.Fatalf("Flush: got %d", err)
	}
	x.s = s
	return x, ops
}

// executed is the state whose disk has executed operations.
func (x state) executed(t *testing.T, ops []api.Op) state {
	t.Helper()
	x.d = run(t, x.d, ops)
	return x
}

// contents are the writes of a state, applied in their order.
func (x state) contents() api.Image {
	im := blank(x.s.Sizes)
	for _, w := range x.writes {
		im = replaced(im, w)
	}
	return im
}

// opened is the state in which the store was opened behind a crash, and the operations of Open were executed.
func (x state) opened(t *testing.T, d api.Disk) state {
	t.Helper()
	s, ops, err := volume.Open(d, x.s.Sizes, x.count)
	if err != api.OK {
		t.Fatalf("Open: got %d", err)
	}
	x.d, x.s = run(t, d, ops), s
	return x
}

// expectStored reports a state whose disk has not its store, or not its writes.
func (x state) expectStored(t *testing.T, what string) {
	t.Helper()
	expectOpen(t, what, x.d, x.s.Sizes, x.count, x.s, nil)
	if !image.Same(x.s.Image, x.contents()) {
		t.Errorf("%s: got the contents %v, want %v", what, x.s.Image, x.contents())
	}
}

// randomWrite is a write that fits, and its record a journal with at least nine sectors for records.
func randomWrite(next func(int) int, sizes []int) api.Write {
	v := next(len(sizes))
	start := next(sizes[v])
	w := api.Write{Volume: v, Start: start}
	for range 1 + next(min(3, sizes[v]-start)) {
		w.Data = append(w.Data, api.Sector{byte(next(3)), byte(next(256)), 0, byte(next(256))})
	}
	return w
}

// stepped is the state behind a random write, or, where the journal is full or once in a while, behind Flush.
func (x state) stepped(t *testing.T, next func(int) int) (state, []api.Op) {
	t.Helper()
	w := randomWrite(next, x.s.Sizes)
	if next(6) == 0 || record.Size(len(payload(w))) > journal.Free(x.s.Journal) {
		return x.flush(t)
	}
	return x.write(t, w)
}

func TestP193WithoutCrash(t *testing.T) {
	for seed := range 40 {
		next := random(uint32(seed))
		sizes := [][]int{{4, 2}, {1}, {3, 3, 3}, {9}}[seed%4]
		more := next(3)
		x := begin(t, sizes, 27+next(30), more)
		x.expectStored(t, "behind Format")
		beyond := slices.Clone(x.d.Stable[len(x.d.Stable)-more:])
		for range 60 {
			after, ops := x.stepped(t, next)
			x = after.executed(t, ops)
			x.expectStored(t, "behind an operation")
			crashed, _ := disk.Crash(x.d, []int{next(5), next(5)})
			x.opened(t, crashed).expectStored(t, "behind a crash")
			for v, sectors := range x.contents() {
				e := api.Extent{Start: next(len(sectors)), Count: 1}
				if got, err := volume.Read(x.s, v, e); err != api.OK || got[0] != sectors[e.Start] {
					t.Errorf("Read of %v in volume %d: got %v, %d, want %v", e, v, got, err, sectors[e.Start])
				}
			}
		}
		if !slices.Equal(x.d.Stable[len(x.d.Stable)-more:], beyond) {
			t.Error("sectors behind the layout are written")
		}
	}
}

func TestP193Flush(t *testing.T) {
	for seed := range 30 {
		next := random(uint32(seed + 100))
		x := begin(t, []int{4, 2, 5}, 27+next(30), 0)
		for range 20 {
			after, ops := x.stepped(t, next)
			x = after.executed(t, ops)
			last, ops := x.flush(t)
			if !image.Same(last.s.Image, x.s.Image) {
				t.Errorf("Flush changes %v to %v", x.s.Image, last.s.Image)
			}
			if free := journal.Free(last.s.Journal); free != x.count-16 || len(last.s.Pending) > 0 {
				t.Errorf("behind Flush %d sectors of the journal are free", free)
			}
			last = last.executed(t, ops)
			last.expectStored(t, "behind Flush")
			// All contents stand in the data area now.
			if !slices.Equal(last.d.Stable[x.count:], slices.Concat(last.contents()...)) {
				t.Errorf("behind Flush the data area is %v", last.d.Stable[x.count:])
			}
		}
	}
}

// bits are decisions for n sectors.
func bits(m, n int) []int {
	var l []int
	for i := range n {
		l = append(l, m>>i&1)
	}
	return l
}

// expectOneOf reports a crashed disk whose contents are not those that one of some states has, and returns the state of it that it has.
func expectOneOf(t *testing.T, what string, d api.Disk, states ...state) state {
	t.Helper()
	x := states[0].opened(t, d)
	for _, y := range states {
		if image.Same(x.s.Image, y.contents()) && journal.Next(x.s.Journal) == journal.Next(y.s.Journal) {
			x.writes = y.writes
			x.expectStored(t, what)
			return x
		}
	}
	t.Fatalf("%s: got %v", what, x.s)
	return state{}
}

// samples are states with journals that are empty, have records, and reach around the end of the ring.
func samples(t *testing.T) []state {
	t.Helper()
	x := begin(t, []int{3, 2}, 30, 1)
	l := []state{x}
	for _, steps := range [][]api.Write{{to(0, 0, "ab")}, {to(1, 1, "c"), to(0, 1, "d")}, {to(1, 0, "e")}} {
		for _, w := range steps {
			if record.Size(len(payload(w))) > journal.Free(x.s.Journal) {
				after, ops := x.flush(t)
				x = after.executed(t, ops)
				l = append(l, x)
			}
			after, ops := x.write(t, w)
			x = after.executed(t, ops)
			l = append(l, x)
		}
	}
	return l
}

func TestP193InterruptedWrite(t *testing.T) {
	for _, x := range samples(t) {
		for _, w := range []api.Write{to(0, 2, "x"), to(1, 0, "xy"), to(0, 0, "...")} {
			size := record.Size(len(payload(w)))
			if size > journal.Free(x.s.Journal) {
				continue
			}
			after, ops := x.write(t, w)
			for n := range len(ops) + 1 {
				for m := range 1 << size {
					crashed, _, err := disk.Interrupt(x.d, ops, n, bits(m, size))
					if err != api.OK {
						t.Fatalf("Interrupt: got %d", err)
					}
					got := expectOneOf(t, "an interrupted Write", crashed, x, after)
					whole := n == len(ops) || n == len(ops)-1 && m == 1<<size-1
					if whole != (journal.Next(got.s.Journal) == journal.Next(after.s.Journal)) {
						t.Errorf("a Write interrupted behind %d operations (%b): got %v", n, m, got.s)
					}
				}
			}
			x.expectStored(t, "before the Write")
			after.executed(t, ops).expectStored(t, "behind the Write")
		}
	}
}

func TestP193InterruptedFlush(t *testing.T) {
	for _, x := range samples(t) {
		after, ops := x.flush(t)
		for n := range len(ops) + 1 {
			for m := range 512 {
				crashed, _, err := disk.Interrupt(x.d, ops, n, bits(m, 9))
				if err != api.OK {
					t.Fatalf("Interrupt: got %d", err)
				}
				got := expectOneOf(t, "an interrupted Flush", crashed, x)
				if n == len(ops) && !same(got.s, after.s) || n+2 <= len(ops) && !same(got.s, x.s) {
					t.Errorf("a Flush interrupted behind %d of %d operations: got %v", n, len(ops), got.s)
				}
				if m%31 == 0 {
					again, more := got.flush(t)
					again.executed(t, more).expectStored(t, "behind another Flush")
				}
			}
		}
	}
}

// After any number of crashes all writes are there that were executed, and of those that were interrupted as a whole or not at all.
func TestP193Crashes(t *testing.T) {
	for seed := range 120 {
		next := random(uint32(seed + 1000))
		x := begin(t, [][]int{{4, 2}, {5}, {2, 2, 2}}[seed%3], 27+next(20), next(2))
		for range 40 {
			after, ops := x.stepped(t, next)
			if next(3) > 0 {
				x = after.executed(t, ops)
				x.expectStored(t, "behind an operation")
				continue
			}
			crashed, _, err := disk.Interrupt(x.d, ops, next(len(ops)+1), bits(next(1<<15), 15))
			if err != api.OK {
				t.Fatalf("Interrupt: got %d", err)
			}
			// The operations of Open may be interrupted, too.
			for next(3) == 0 {
				_, more, err := volume.Open(crashed, x.s.Sizes, x.count)
				if err != api.OK {
					t.Fatalf("Open: got %d", err)
				}
				if crashed, _, err = disk.Interrupt(crashed, more, next(len(more)+1), bits(next(1<<15), 15)); err != api.OK {
					t.Fatalf("Interrupt: got %d", err)
				}
			}
			x = expectOneOf(t, "behind a crash", crashed, x, after)
		}
	}
}

// No arguments, however they were put together, make a function panic.
func TestAnything(t *testing.T) {
	for seed := range 400 {
		next := random(uint32(seed + 7))
		some := func() int {
			return []int{0, 1, 2, 4, 16, 19, 20, 30, 4095, 4096, -1, math.MinInt, math.MaxInt, api.MaxTime, 5, 6}[next(16)]
		}
		stores := inOrder()
		s := stores[next(len(stores))]
		for range 1 + next(2) {
			switch next(8) {
			case 0:
				s.Sizes = []int{some(), some()}
			case 1:
				s.Journal.Region = api.Region{Start: some(), Count: some()}
			case 2:
				s.Journal.Head, s.Journal.Tail = some(), some()
			case 3:
				s.Journal.Sizes = []int{some(), some(), some()}
			case 4:
				s.Journal.First, s.Applied = some(), some()
			case 5:
				s.Data = some()
			case 6:
				s.Pending = append(s.Pending, api.Write{Volume: some(), Start: some(), Data: zeros(next(4))})
			case 7:
				s.Image = append(s.Image, zeros(next(5)))
			}
		}
		d := holding(40, 30, next(14), 1, recordsOf(1, to(0, 1, "a")), nil)
		d.Cache = []api.Cached{{At: some()}}
		code := volume.Check(s)
		w := api.Write{Volume: some(), Start: some(), Data: zeros(next(3))}
		if after, _, _, err := volume.Write(s, w); err == api.OK && volume.Check(after) != api.OK || code != api.OK && err != code {
			t.Errorf("Write: got %d, Check %d", err, code)
		}
		if after, _, err := volume.Flush(d, s); err == api.OK && volume.Check(after) != api.OK {
			t.Errorf("Flush: got %v", after)
		}
		if after, _, err := volume.Open(d, s.Sizes, some()); err == api.OK && volume.Check(after) != api.OK {
			t.Errorf("Open: got %v", after)
		}
		if _, err := volume.Read(s, some(), api.Extent{Start: some(), Count: some()}); code != api.OK && err != code {
			t.Errorf("Read: got %d, Check %d", err, code)
		}
	}
}

// spoil changes everything that a value reaches, its spare capacity too.
func spoil(v reflect.Value) {
	switch v.Kind() {
	case reflect.Slice:
		for i := range v.Cap() {
			spoil(v.Slice(0, v.Cap()).Index(i))
		}
	case reflect.Array:
		for i := range v.Len() {
			spoil(v.Index(i))
		}
	case reflect.Struct:
		for i := range v.NumField() {
			spoil(v.Field(i))
		}
	case reflect.Int:
		v.SetInt(77)
	case reflect.Uint8:
		v.SetUint(77)
	}
}

// whole returns everything that a list reaches, with its spare capacity.
func whole[T any](l []T) []T {
	return l[:cap(l)]
}

// spare returns a copy of a list with one more element in its spare capacity.
func spare[T any](l []T, beyond T) []T {
	return append(slices.Clone(l), beyond)[:len(l)]
}

// arguments are what the functions are called with.
type arguments struct {
	d     api.Disk
	s     api.Store
	w     api.Write
	sizes []int
}

// values are arguments with elements in their spare capacity.
func values() arguments {
	a := arguments{s: pending(), w: to(0, 1, "k"), sizes: spare([]int{4, 2}, 5)}
	a.w.Data = spare(a.w.Data, api.Sector{9})
	a.s.Sizes, a.s.Journal.Sizes = spare(a.s.Sizes, 6), spare(a.s.Journal.Sizes, 7)
	for i, w := range a.s.Pending {
		a.s.Pending[i].Data = spare(w.Data, api.Sector{8})
	}
	for i, sectors := range a.s.Image {
		a.s.Image[i] = spare(sectors, api.Sector{7})
	}
	a.s.Pending, a.s.Image = spare(a.s.Pending, to(0, 0, "m")), spare(a.s.Image, list("n"))
	a.d = holding(66, 60, 20, 7, recordsOf(7, a.s.Pending...), picture("pqrs", "uv"))
	a.d.Stable[16+1] = api.Sector{99}
	a.d.Stable = spare(a.d.Stable, api.Sector{6})
	a.d.Cache = spare([]api.Cached{{At: 61}}, api.Cached{At: 99})
	return a
}

// everything lists what arguments reach.
func (a arguments) everything() []any {
	l := []any{whole(a.d.Stable), whole(a.d.Cache), whole(a.s.Sizes), whole(a.s.Journal.Sizes), whole(a.w.Data), whole(a.sizes)}
	for _, w := range whole(a.s.Pending) {
		l = append(l, w.Volume, w.Start, whole(w.Data))
	}
	for _, sectors := range whole(a.s.Image) {
		l = append(l, whole(sectors))
	}
	return l
}

// results are what the functions make of their arguments.
func results(t *testing.T, a arguments) []any {
	t.Helper()
	formatted, format, err := volume.Format(a.sizes, 60)
	written, _, ops, err2 := volume.Write(a.s, a.w)
	flushed, flush, err3 := volume.Flush(a.d, a.s)
	empty, none, err4 := volume.Flush(a.d, flushed)
	opened, open, err5 := volume.Open(a.d, a.sizes, 60)
	sectors, err6 := volume.Read(a.s, 0, api.Extent{Start: 1, Count: 2})
	if err != api.OK || err2 != api.OK || err3 != api.OK || err4 != api.OK || err5 != api.OK || err6 != api.OK || len(none) > 0 || len(open) == 0 {
		t.Fatalf("got %d, %d, %d, %d, %d, %d, %v, %v", err, err2, err3, err4, err5, err6, none, open)
	}
	return []any{&formatted, &format, &written, &ops, &flushed, &flush, &empty, &opened, &open, &sectors}
}

// slicesOf returns all lists that a value reaches.
func slicesOf(v reflect.Value) []reflect.Value {
	var l []reflect.Value
	switch v.Kind() {
	case reflect.Slice:
		if v.Cap() > 0 {
			l = append(l, v)
		}
		for i := range v.Len() {
			l = append(l, slicesOf(v.Index(i))...)
		}
	case reflect.Struct:
		for i := range v.NumField() {
			l = append(l, slicesOf(v.Field(i))...)
		}
	}
	return l
}

// overlap reports whether two lists share memory.
func overlap(a, b reflect.Value) bool {
	size := func(v reflect.Value) uintptr { return uintptr(v.Cap()) * v.Type().Elem().Size() }
	return a.Pointer() < b.Pointer()+size(b) && b.Pointer() < a.Pointer()+size(a)
}

func TestValues(t *testing.T) {
	a := values()
	got := results(t, a)
	if !reflect.DeepEqual(a.everything(), values().everything()) {
		t.Error("the arguments are modified")
	}
	var all []reflect.Value
	for _, x := range got {
		all = append(all, slicesOf(reflect.ValueOf(x).Elem())...)
	}
	for i, v := range all {
		for _, w := range all[:i] {
			if overlap(v, w) {
				t.Errorf("two lists of the results share memory: %v, %v", v, w)
			}
		}
	}
	want := results(t, values())
	for _, argument := range []any{&a.d, &a.s, &a.w, &a.sizes} {
		spoil(reflect.ValueOf(argument).Elem())
	}
	if !reflect.DeepEqual(got, want) {
		t.Error("the results have changed with the arguments")
	}
	for i := range got {
		spoil(reflect.ValueOf(got[i]).Elem())
	}
	if again := results(t, values()); !reflect.DeepEqual(again, want) {
		t.Error("the results have changed with earlier ones")
	}
}
