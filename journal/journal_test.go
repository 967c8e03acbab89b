package journal_test

import (
	"math"
	"slices"
	"testing"

	"standby/api"
	"standby/disk"
	"standby/journal"
	"standby/record"
	"standby/superblock"
	"standby/wire"
)

// random returns numbers from 0 to n - 1 that look random.
func random(seed uint32) func(n int) int {
	return func(n int) int {
		seed = seed*1664525 + 1013904223
		return int(seed>>8) % n
	}
}

// text is a payload of some bytes that depend on a number.
func text(n, length int) []byte {
	var l []byte
	for i := range length {
		l = append(l, byte(n+i*7))
	}
	return l
}

func zeros(n int) []api.Sector {
	return make([]api.Sector, n)
}

// filled are sectors whose numbers are 0, so that a ring of them contains no record, and whose other bytes are not.
func filled(n int) []api.Sector {
	l := zeros(n)
	for i := range l {
		l[i] = api.Sector{0, 0, 0, 0, byte(i), 205, 206, byte(i >> 8)}
	}
	return l
}

func write(at int, data []api.Sector) api.Op {
	return api.Op{Kind: api.OpWrite, At: at, Data: data}
}

func sync() api.Op {
	return api.Op{Kind: api.OpSync}
}

func sameOp(a, b api.Op) bool {
	return a.Kind == b.Kind && a.At == b.At && slices.Equal(a.Data, b.Data)
}

func sameRecord(a, b api.Record) bool {
	return a.Kind == b.Kind && a.Sequence == b.Sequence && slices.Equal(a.Payload, b.Payload)
}

func sameJournal(a, b api.Journal) bool {
	return a.Region == b.Region && a.Head == b.Head && a.Tail == b.Tail && a.First == b.First && slices.Equal(a.Sizes, b.Sizes)
}

func region(start, count int) api.Region {
	return api.Region{Start: start, Count: count}
}

// of is the journal with some numbers, whose Tail is what follows from them.
func of(r api.Region, head, first int, sizes ...int) api.Journal {
	tail := head
	for _, size := range sizes {
		tail = (tail + size) % (r.Count - 16)
	}
	return api.Journal{Region: r, Head: head, Tail: tail, First: first, Sizes: sizes}
}

func expect(t *testing.T, what string, got api.Journal, ops []api.Op, err api.Errno, want api.Journal, wanted []api.Op, code api.Errno) {
	t.Helper()
	if err != code || !sameJournal(got, want) || !slices.EqualFunc(ops, wanted, sameOp) {
		t.Errorf("%s: got %v, %v, %d, want %v, %v, %d", what, got, ops, err, want, wanted, code)
	}
}

func expectError(t *testing.T, what string, got api.Journal, ops []api.Op, err api.Errno, code api.Errno) {
	t.Helper()
	expect(t, what, got, ops, err, api.Journal{}, nil, code)
}

// expectOpen compares what Open returns.
func expectOpen(t *testing.T, what string, d api.Disk, want api.Journal, records []api.Record, wanted []api.Op) {
	t.Helper()
	got, l, ops, err := journal.Open(d, want.Region)
	expect(t, what+": Open", got, ops, err, want, wanted, api.OK)
	if !slices.EqualFunc(l, records, sameRecord) {
		t.Errorf("%s: Open: got the records %v, want %v", what, l, records)
	}
}

// run executes all operations.
func run(t *testing.T, d api.Disk, ops []api.Op) api.Disk {
	t.Helper()
	after, n, err := disk.Run(d, ops)
	if err != api.OK {
		t.Fatalf("operation %d of %v: got %d", n, ops, err)
	}
	return after
}

// sectorsOf are the sectors of a record.
func sectorsOf(kind, sequence int, payload []byte) []api.Sector {
	l, _ := record.Encode(api.Record{Kind: kind, Sequence: sequence, Payload: payload})
	return l
}

// wrongRegions are regions that are not valid.
func wrongRegions() []api.Region {
	return []api.Region{
		{}, region(0, 19), region(5, 19), region(0, 16), region(0, 0), region(0, -1), region(0, math.MinInt),
		region(-1, 20), region(-1, 40), region(math.MinInt, 20), region(math.MinInt, math.MinInt), region(-20, 4096),
		region(0, 4097), region(1, 4096), region(4077, 20), region(4096, 20), region(4000, 97), region(0, math.MaxInt),
		region(math.MaxInt, 20), region(math.MaxInt, math.MaxInt), region(math.MaxInt-19, 20), region(1, math.MaxInt), region(20, math.MaxInt-19),
	}
}

// regions are regions that are valid.
func regions() []api.Region {
	return []api.Region{region(0, 20), region(7, 20), region(0, 21), region(0, 24), region(30, 24), region(4076, 20), region(0, 4096), region(1, 4095), region(4000, 96)}
}

// wellFormed are journals that Check accepts.
func wellFormed() []api.Journal {
	l := []api.Journal{
		of(region(0, 20), 0, 1, 2, 2), of(region(0, 20), 3, 1, 2, 2), of(region(0, 20), 3, 1, 4), of(region(0, 20), 1, 1, 3), of(region(0, 21), 4, 9, 2, 3),
		of(region(5, 24), 6, 77, 2, 3), of(region(0, 4096), 4079, 5, 1026, 1026, 1026, 1002), of(region(0, 4096), 4079, 5, 1026, 1026, 1026, 1000, 2),
		of(region(0, 40), 0, api.MaxTime), of(region(0, 40), 0, api.MaxTime-1, 2), of(region(0, 40), 9, api.MaxTime-3, 2, 4, 3),
		of(region(0, 4096), 100, 1, slices.Repeat([]int{2}, 2040)...), of(region(0, 4096), 7, api.MaxTime-2040, slices.Repeat([]int{2}, 2040)...),
	}
	for _, r := range regions() {
		l = append(l, of(r, 0, 1), of(r, r.Count-17, 1), of(r, 1, api.MaxTime), of(r, r.Count-17, 4, 2, 2), of(r, 2, 5, 4))
	}
	return l
}

// malformed are journals that Check refuses.
func malformed() []api.Journal {
	l := []api.Journal{{}}
	for _, r := range wrongRegions() {
		l = append(l, api.Journal{Region: r, First: 1})
	}
	r := region(3, 26)
	for _, head := range []int{-1, 10, 11, 20, math.MinInt, math.MaxInt} {
		l = append(l, api.Journal{Region: r, Head: head, Tail: head, First: 1}, api.Journal{Region: r, Head: head, First: 1})
	}
	for _, first := range []int{0, -1, api.MaxTime + 1, math.MinInt, math.MaxInt} {
		l = append(l, of(r, 0, first), of(r, 0, first, 2))
	}
	l = append(l, of(r, 0, api.MaxTime, 2), of(r, 0, api.MaxTime-1, 2, 2), of(region(0, 4096), 7, api.MaxTime-2039, slices.Repeat([]int{2}, 2040)...))
	for _, size := range []int{1, 0, -1, -2, 11, 1026, 1027, math.MinInt, math.MaxInt, math.MaxInt - 1} {
		l = append(l, api.Journal{Region: r, Head: 4, Tail: 4, First: 1, Sizes: []int{size}})
		l = append(l, api.Journal{Region: r, Head: 4, Tail: 6, First: 1, Sizes: []int{2, size}}, api.Journal{Region: r, Head: 4, Tail: 8, First: 1, Sizes: []int{2, 2 - size, size}})
	}
	l = append(l, of(region(0, 4096), 0, 1, 1027), of(region(0, 4096), 0, 1, 2, 1), of(region(0, 4096), 0, 1, 1026, 1026, 1026, 1003), of(region(0, 20), 0, 1, 2, 3))
	l = append(l, of(region(0, 4096), 7, 1, slices.Repeat([]int{2}, 2041)...), of(region(0, 20), 0, 1, math.MaxInt, math.MaxInt, 2, 4))
	for _, tail := range []int{0, 4, 8, 9, 10, 19, -1, math.MaxInt} {
		l = append(l, api.Journal{Region: r, Head: 4, Tail: tail, First: 1, Sizes: []int{3}})
	}
	for _, tail := range []int{1, 9, 10, -10} {
		l = append(l, api.Journal{Region: r, Tail: tail, First: 1}, api.Journal{Region: r, Tail: tail, First: 1, Sizes: []int{4, 6}})
	}
	return l
}

func TestP141Check(t *testing.T) {
	for _, j := range wellFormed() {
		if err := journal.Check(j); err != api.OK {
			t.Errorf("Check of %v: got %d", j, err)
		}
	}
	for _, j := range malformed() {
		if err := journal.Check(j); err != api.ErrForm {
			t.Errorf("Check of %v: got %d", j, err)
		}
	}
}

func TestP141NextAndFree(t *testing.T) {
	for _, j := range wellFormed() {
		free := j.Region.Count - 16
		for _, size := range j.Sizes {
			free -= size
		}
		if got := journal.Next(j); got != j.First+len(j.Sizes) {
			t.Errorf("Next of %v: got %d", j, got)
		}
		if got := journal.Free(j); got != free {
			t.Errorf("Free of %v: got %d, want %d", j, got, free)
		}
	}
	for _, j := range malformed() {
		if next, free := journal.Next(j), journal.Free(j); next != 0 || free != 0 {
			t.Errorf("Next and Free of %v: got %d, %d", j, next, free)
		}
	}
}

func TestP141Format(t *testing.T) {
	for _, r := range regions() {
		j, ops, err := journal.Format(r)
		super, _ := superblock.Format(r.Start, []byte{0, 1})
		expect(t, "Format", j, ops, err, of(r, 0, 1), append([]api.Op{write(r.Start+16, zeros(r.Count-16)), sync()}, super...), api.OK)
	}
	for _, r := range wrongRegions() {
		j, ops, err := journal.Format(r)
		expectError(t, "Format", j, ops, err, api.ErrRange)
	}
}

// expectAppend compares Append of a record to a well-formed journal that has room for it with the definitions.
func expectAppend(t *testing.T, j api.Journal, kind int, payload []byte) {
	t.Helper()
	l := sectorsOf(kind, j.First+len(j.Sizes), payload)
	n, ring := j.Region.Count-16, j.Region.Start+16
	want := of(j.Region, j.Head, j.First, append(slices.Clone(j.Sizes), len(l))...)
	var wanted []api.Op
	if j.Tail+len(l) <= n {
		wanted = []api.Op{write(ring+j.Tail, l), sync()}
	} else {
		wanted = []api.Op{write(ring+j.Tail, l[:n-j.Tail]), write(ring, l[n-j.Tail:]), sync()}
	}
	got, ops, err := journal.Append(j, kind, payload)
	expect(t, "Append", got, ops, err, want, wanted, api.OK)
}

func TestP141Append(t *testing.T) {
	for count := 20; count < 30; count++ {
		r := region(count%3, count)
		n := count - 16
		for head := range n {
			for used := range n - 1 {
				sizes := []int{used}
				if used < 2 {
					sizes = nil
				}
				j := of(r, head, 1+head*100, sizes...)
				for length := 0; record.Size(length) <= journal.Free(j); length++ {
					expectAppend(t, j, 1+length, text(head, length))
				}
			}
		}
	}
	big := region(0, 4096)
	for _, j := range []api.Journal{of(big, 0, 1), of(big, 4079, 7), of(big, 3054, 7), of(big, 3055, 7), of(big, 4000, 9, 1026, 1026), of(big, 4000, 9, 1026, 1026, 1002)} {
		for _, kind := range []int{1, 255} {
			expectAppend(t, j, kind, text(kind, api.MaxPayload))
		}
	}
	expectAppend(t, of(big, 5, api.MaxTime-1), 3, text(1, 4))
	expectAppend(t, of(big, 5, api.MaxTime-4, 2, 2, 2), 3, text(1, 4))
	expectAppend(t, of(big, 5, 1, slices.Repeat([]int{2}, 2039)...), 3, text(1, 1))
}

func TestP141AppendErrors(t *testing.T) {
	for _, j := range malformed() {
		for _, kind := range []int{1, 0} {
			got, ops, err := journal.Append(j, kind, nil)
			expectError(t, "Append to a malformed journal", got, ops, err, api.ErrForm)
		}
	}
	// Each error is found before those behind it.
	small, last := region(0, 20), api.MaxTime
	for _, j := range []api.Journal{of(small, 1, 1), of(small, 1, 1, 4), of(small, 1, last), of(small, 1, last-1, 4)} {
		for _, kind := range []int{0, -1, 256, math.MinInt, math.MaxInt} {
			for _, length := range []int{0, 4096, 4097} {
				got, ops, err := journal.Append(j, kind, text(1, length))
				expectError(t, "Append of a wrong kind", got, ops, err, api.ErrRange)
			}
		}
		for _, length := range []int{4097, 4098, 65536} {
			got, ops, err := journal.Append(j, 255, text(1, length))
			expectError(t, "Append of a long payload", got, ops, err, api.ErrLong)
		}
	}
	for _, j := range []api.Journal{of(small, 1, last), of(small, 1, last-1, 4), of(small, 1, last-1, 2), of(small, 0, last-2, 2, 2), of(region(0, 4096), 1, last)} {
		for _, length := range []int{0, 9, 4096} {
			got, ops, err := journal.Append(j, 1, text(1, length))
			expectError(t, "Append behind the last number", got, ops, err, api.ErrMany)
		}
	}
	for _, x := range []struct {
		j    api.Journal
		most int
	}{
		{of(small, 2, 1), 9}, {of(small, 2, 1, 2), 1}, {of(small, 2, 1, 3), -1}, {of(small, 2, 1, 2, 2), -1}, {of(small, 2, 1, 4), -1}, {of(small, 2, last-1), 9},
		{of(region(0, 24), 6, 1, 2, 2), 9}, {of(region(0, 4096), 6, 1, 1026, 1026, 1026), 4001}, {of(region(0, 1041), 6, 1), 4093},
	} {
		for _, length := range []int{x.most, x.most + 1, 4096} {
			if length == x.most {
				if length >= 0 {
					expectAppend(t, x.j, 1, text(1, length))
				}
				continue
			}
			got, ops, err := journal.Append(x.j, 1, text(1, length))
			expectError(t, "Append to a full journal", got, ops, err, api.ErrFull)
		}
	}
}

// formatted is a disk with an empty journal in a region.
func formatted(t *testing.T, size int, r api.Region) (api.Disk, api.Journal) {
	t.Helper()
	j, ops, err := journal.Format(r)
	if err != api.OK {
		t.Fatalf("Format: got %d", err)
	}
	return run(t, api.Disk{Stable: filled(size)}, ops), j
}

// appended is a disk and its journal behind Append.
func appended(t *testing.T, d api.Disk, j api.Journal, kind int, payload []byte) (api.Disk, api.Journal) {
	t.Helper()
	j, ops, err := journal.Append(j, kind, payload)
	if err != api.OK {
		t.Fatalf("Append: got %d", err)
	}
	return run(t, d, ops), j
}

// released is a disk and its journal behind Release.
func released(t *testing.T, d api.Disk, j api.Journal, sequence int) (api.Disk, api.Journal) {
	t.Helper()
	j, ops, err := journal.Release(d, j, sequence)
	if err != api.OK {
		t.Fatalf("Release: got %d", err)
	}
	return run(t, d, ops), j
}

func TestP141Example1(t *testing.T) {
	_, j := formatted(t, 24, region(0, 24))
	if free := journal.Free(j); free != 8 {
		t.Fatalf("a ring of %d sectors", free)
	}
	for i := range 2 {
		var err api.Errno
		if j, _, err = journal.Append(j, 1, text(i, 1)); err != api.OK || j.Sizes[i] != 2 {
			t.Fatalf("Append: got %v, %d", j, err)
		}
	}
	if free := journal.Free(j); free != 4 {
		t.Errorf("%d sectors are free", free)
	}
	after, _, err := journal.Append(j, 1, text(1, 9))
	if err != api.OK || after.Sizes[2] != 4 || journal.Free(after) != 0 {
		t.Errorf("Append of 9 bytes: got %v, %d", after, err)
	}
	got, ops, err := journal.Append(j, 1, text(1, 10))
	expectError(t, "Append of 10 bytes", got, ops, err, api.ErrFull)
}

func TestP142Example2(t *testing.T) {
	d, j := formatted(t, 24, region(0, 24))
	d, j = appended(t, d, j, 1, text(0, 1))
	d, j = appended(t, d, j, 1, text(1, 1))
	// A third record of 4 sectors fills the ring.
	d, j = appended(t, d, j, 1, text(2, 9))
	d, j = released(t, d, j, 1)
	after, ops, err := journal.Append(j, 1, text(3, 1))
	want := sectorsOf(1, 4, text(3, 1))
	expect(t, "the fourth record", after, ops, err, of(region(0, 24), 2, 2, 2, 4, 2), []api.Op{write(16, want), sync()}, api.OK)
	for i, s := range want {
		if s[0] != 4 || d.Stable[16+i][0] != 1 {
			t.Errorf("sector %d has the number %d, had %d", i, s[0], d.Stable[16+i][0])
		}
	}
}

// holding is a disk of some sectors with a superblock with a payload at the beginning of a region, and a ring.
func holding(size int, r api.Region, payload []byte, ring ...api.Sector) api.Disk {
	d := api.Disk{Stable: filled(size)}
	ops, _ := superblock.Format(r.Start, payload)
	d, _, _ = disk.Run(d, ops)
	copy(d.Stable[r.Start+16:r.Start+r.Count], ring)
	return d
}

// payloadOf is the payload of a superblock.
func payloadOf(head, first int) []byte {
	return wire.PutInt(wire.PutInt(nil, head), first)
}

func TestP142Release(t *testing.T) {
	for _, j := range wellFormed() {
		d := holding(j.Region.Start+16, region(j.Region.Start, 16), text(1, 5))
		gone := []int{}
		for i := range len(j.Sizes) + 1 {
			if i < 5 || i > len(j.Sizes)-3 || i == 700 {
				gone = append(gone, i)
			}
		}
		for _, n := range gone {
			sequence := j.First - 1 + n
			sum := 0
			for _, size := range j.Sizes[:n] {
				sum += size
			}
			want := of(j.Region, (j.Head+sum)%(j.Region.Count-16), j.First+n, j.Sizes[n:]...)
			var wanted []api.Op
			if n > 0 {
				wanted, _ = superblock.Store(d, j.Region.Start, payloadOf(want.Head, want.First))
			}
			got, ops, err := journal.Release(d, j, sequence)
			expect(t, "Release", got, ops, err, want, wanted, api.OK)
		}
		for _, sequence := range []int{j.First - 2, -1, math.MinInt, j.First + len(j.Sizes), j.First + len(j.Sizes) + 1, math.MaxInt} {
			got, ops, err := journal.Release(d, j, sequence)
			expectError(t, "Release of a wrong number", got, ops, err, api.ErrRange)
		}
	}
}

// wrongDisks are disks that disk.Check refuses.
func wrongDisks() []api.Disk {
	good := holding(40, region(0, 40), payloadOf(0, 1))
	return []api.Disk{
		{Stable: slices.Concat(good.Stable, filled(api.MaxSectors))},
		{Stable: good.Stable, Cache: []api.Cached{{At: 40}}},
		{Stable: good.Stable, Cache: []api.Cached{{At: -1}}},
	}
}

func TestP142ReleaseErrors(t *testing.T) {
	r := region(2, 24)
	j := of(r, 1, 5, 2, 3)
	good := holding(26, r, payloadOf(1, 5))
	for _, d := range wrongDisks() {
		for _, x := range []api.Journal{of(region(0, 40), 0, 1), {}} {
			got, ops, err := journal.Release(d, x, 0)
			expectError(t, "Release on a wrong disk", got, ops, err, api.ErrRange)
		}
	}
	for _, x := range malformed() {
		for _, sequence := range []int{x.First - 1, x.First, -1} {
			got, ops, err := journal.Release(good, x, sequence)
			expectError(t, "Release of a malformed journal", got, ops, err, api.ErrForm)
		}
	}
	last := run(t, good, []api.Op{write(10, slices.Repeat([]api.Sector{{255, 255, 255, 255}}, 8))})
	none := api.Disk{Stable: filled(26)}
	for _, x := range []struct {
		d    api.Disk
		code api.Errno
	}{
		{api.Disk{}, api.ErrRange}, {api.Disk{Stable: good.Stable[:17]}, api.ErrRange}, {none, api.ErrChecksum}, {last, api.ErrFull},
	} {
		for _, sequence := range []int{5, 6} {
			got, ops, err := journal.Release(x.d, j, sequence)
			expectError(t, "Release without a superblock", got, ops, err, x.code)
		}
		for _, sequence := range []int{3, 7} {
			got, ops, err := journal.Release(x.d, j, sequence)
			expectError(t, "Release of a wrong number", got, ops, err, api.ErrRange)
		}
		// Where nothing is released, nothing is stored.
		got, ops, err := journal.Release(x.d, j, 4)
		expect(t, "Release of nothing", got, ops, err, j, nil, api.OK)
	}
	// Only the superblock has to be on the disk.
	got, _, err := journal.Release(api.Disk{Stable: good.Stable[:18]}, j, 5)
	if err != api.OK || !sameJournal(got, of(r, 3, 6, 3)) {
		t.Errorf("Release on a disk with a superblock alone: got %v, %d", got, err)
	}
}

// numberAt is the number of a sector.
func numberAt(s api.Sector) int {
	return int(s[0]) + int(s[1])<<8 + int(s[2])<<16 + int(s[3])<<24
}

// opened is what Open has to return for a ring, by the definitions.
func opened(r api.Region, head, first int, ring []api.Sector) (api.Journal, []api.Record, []api.Op) {
	n := len(ring)
	records, _ := record.Scan(slices.Concat(ring[head:], ring[:head]), first)
	var kept []api.Record
	var sizes []int
	used := map[int]bool{}
	at := head
	for _, x := range records {
		if x.Sequence >= api.MaxTime {
			break
		}
		kept, sizes = append(kept, x), append(sizes, record.Size(len(x.Payload)))
		for range record.Size(len(x.Payload)) {
			used[at] = true
			at = (at + 1) % n
		}
	}
	stale := func(p int) bool { return p >= 0 && p < n && !used[p] && numberAt(ring[p]) >= first+len(kept) }
	var ops []api.Op
	for p := range n {
		if !stale(p) {
			continue
		}
		if !stale(p - 1) {
			ops = append(ops, write(r.Start+16+p, nil))
		}
		ops[len(ops)-1].Data = append(ops[len(ops)-1].Data, api.Sector{})
	}
	if len(ops) > 0 {
		ops = append(ops, sync())
	}
	return of(r, head, first, sizes...), kept, ops
}

// expectModel compares Open of a ring that begins at a position with the definitions.
func expectModel(t *testing.T, what string, r api.Region, head, first int, ring []api.Sector) {
	t.Helper()
	d := holding(min(r.Start+r.Count+2, api.MaxSectors), r, payloadOf(head, first), ring...)
	j, records, ops := opened(r, head, first, ring)
	expectOpen(t, what, d, j, records, ops)
}

func TestP142OpenWithoutRecords(t *testing.T) {
	for _, r := range regions() {
		d := holding(r.Start+r.Count, r, payloadOf(0, 1))
		for _, first := range []int{1, 2, api.MaxTime} {
			for _, head := range []int{0, 1, r.Count - 17} {
				d := run(t, d, []api.Op{write(r.Start, holding(16, region(0, 16), payloadOf(head, first)).Stable)})
				expectOpen(t, "no records", d, of(r, head, first), nil, nil)
			}
		}
	}
}

func TestP142OpenErrors(t *testing.T) {
	good := holding(40, region(0, 40), payloadOf(0, 1))
	check := func(what string, d api.Disk, r api.Region, code api.Errno) {
		t.Helper()
		j, l, ops, err := journal.Open(d, r)
		expectError(t, what, j, ops, err, code)
		if len(l) > 0 {
			t.Errorf("%s: got the records %v", what, l)
		}
	}
	for _, d := range wrongDisks() {
		check("a wrong disk", d, region(0, 40), api.ErrRange)
		check("a wrong disk and region", d, region(0, 3), api.ErrRange)
	}
	for _, r := range append(wrongRegions(), region(0, 41), region(1, 40), region(20, 21), region(40, 20), region(4000, 96)) {
		check("a wrong region", good, r, api.ErrRange)
		check("a wrong region, an empty disk", api.Disk{}, r, api.ErrRange)
	}
	check("no superblock", api.Disk{Stable: filled(40)}, region(0, 40), api.ErrChecksum)
	check("no superblock here", good, region(1, 39), api.ErrChecksum)
	torn := run(t, good, []api.Op{write(7, zeros(1))})
	check("a damaged superblock", torn, region(0, 40), api.ErrChecksum)
	for _, payload := range [][]byte{
		nil, {0}, {0, 1, 0}, {0, 1, 1}, {1}, {0, 128}, {128}, {0, 128, 0}, {128, 0, 1}, {0, 129, 0}, {0, 1, 128}, {255, 255, 255, 255, 255, 255, 255, 16, 1}, text(200, 31),
		payloadOf(24, 1), payloadOf(25, 1), payloadOf(40, 1), payloadOf(1<<53-1, 1), payloadOf(0, 0), payloadOf(23, 0), payloadOf(0, api.MaxTime+1), payloadOf(0, 1<<53-1), payloadOf(24, 0),
	} {
		check("a wrong payload", holding(40, region(0, 40), payload), region(0, 40), api.ErrForm)
	}
	expectOpen(t, "the last numbers", holding(40, region(0, 40), payloadOf(23, api.MaxTime)), of(region(0, 40), 23, api.MaxTime), nil, nil)
}

// joined are the sectors of records with consecutive numbers and payloads of some lengths.
func joined(first int, lengths ...int) []api.Sector {
	var l []api.Sector
	for i, n := range lengths {
		l = append(l, sectorsOf(1+i, first+i, text(i, n))...)
	}
	return l
}

// turned is a ring of n sectors with sectors from a position on, and zeros.
func turned(n, head int, l []api.Sector) []api.Sector {
	ring := zeros(n)
	for i, s := range l {
		ring[(head+i)%n] = s
	}
	return ring
}

func TestP142OpenRecords(t *testing.T) {
	for _, lengths := range [][]int{{0}, {1}, {5}, {9}, {1, 1}, {1, 9}, {9, 1}, {0, 1, 0, 1}, {2, 5}, {21}, {13, 1}, {1, 13}} {
		for n := max(4, len(joined(1, lengths...))); n < 14; n++ {
			r := region(n%4, 16+n)
			for head := range n {
				for _, first := range []int{1, 255, 65530, api.MaxTime - len(lengths)} {
					l := joined(first, lengths...)
					j, records, ops := opened(r, head, first, turned(n, head, l))
					if len(records) != len(lengths) || len(ops) > 0 {
						t.Fatalf("the model finds %v, %v", records, ops)
					}
					expectOpen(t, "records", holding(r.Start+r.Count+1, r, payloadOf(head, first), turned(n, head, l)...), j, records, nil)
				}
			}
		}
	}
	r := region(0, 4096)
	expectModel(t, "the longest records", r, 4000, 9, turned(4080, 4000, joined(9, 4096, 4096, 4096, 4000)))
	expectModel(t, "the most records", r, 4001, 9, turned(4080, 4001, joined(9, slices.Repeat([]int{1}, 2040)...)))
}

// The newest contents of the ring count, be they stable or not.
func TestP142OpenCached(t *testing.T) {
	r := region(2, 26)
	d := holding(28, r, payloadOf(8, 4), turned(10, 8, joined(4, 1, 1))...)
	l := joined(6, 9)
	for i, s := range l {
		d.Cache = append(d.Cache, api.Cached{At: 18 + (2 + i), Data: s})
	}
	expectOpen(t, "a cached record", d, of(r, 8, 4, 2, 2, 4), []api.Record{{Kind: 1, Sequence: 4, Payload: text(0, 1)}, {Kind: 2, Sequence: 5, Payload: text(1, 1)}, {Kind: 1, Sequence: 6, Payload: text(0, 9)}}, nil)
	d.Cache = append(d.Cache, api.Cached{At: 18 + 8, Data: api.Sector{}})
	expectOpen(t, "a cached zero sector", d, of(r, 8, 4), nil, []api.Op{write(18, zeros(6)), write(18+9, zeros(1)), sync()})
}

// Numbers that are too great for a journal belong to no records of it.
func TestP142OpenLastNumbers(t *testing.T) {
	last := api.MaxTime
	r := region(0, 28)
	ring := turned(12, 3, joined(last-2, 1, 1, 1, 1, 1))
	first := []api.Record{{Kind: 1, Sequence: last - 2, Payload: text(0, 1)}, {Kind: 2, Sequence: last - 1, Payload: text(1, 1)}}
	expectOpen(t, "numbers from MaxTime on", holding(28, r, payloadOf(3, last-2), ring...), of(r, 3, last-2, 2, 2), first, []api.Op{write(16, zeros(1)), write(16+7, zeros(5)), sync()})
	expectOpen(t, "First is MaxTime", holding(28, r, payloadOf(7, last), ring...), of(r, 7, last), nil, []api.Op{write(16, zeros(1)), write(16+7, zeros(5)), sync()})
	full := turned(12, 3, joined(last-1, 1, 1, 1, 1, 1, 1))
	expectOpen(t, "a full ring", holding(28, r, payloadOf(3, last-1), full...), of(r, 3, last-1, 2), []api.Record{{Kind: 1, Sequence: last - 1, Payload: text(0, 1)}}, []api.Op{write(16, zeros(3)), write(16+5, zeros(7)), sync()})
	great := turned(12, 0, []api.Sector{{255, 255, 255, 255}, {}, {0, 0, 0, 128}, {}, {255, 255, 255, 127}, {0, 0, 0, 64}, {255, 255, 255, 63}, {0, 0, 0, 1}})
	expectOpen(t, "great numbers", holding(28, r, payloadOf(1, last), great...), of(r, 1, last), nil, []api.Op{write(16, zeros(1)), write(16+2, zeros(1)), write(16+4, zeros(2)), sync()})
}

// What may be taken for a part of a later record is removed, run by run; runs do not reach around the end of the ring.
func TestP142OpenRemoves(t *testing.T) {
	r := region(3, 26)
	s := func(n int) api.Sector { return api.Sector{byte(n), byte(n >> 8), 0, 0, 9, 9, 9, 9} }
	at := func(p, n int) api.Op { return write(19+p, zeros(n)) }
	record5 := []api.Record{{Kind: 1, Sequence: 5, Payload: text(0, 1)}}
	for _, x := range []struct {
		// numbers are those of the sectors behind record 5, which stands at the positions 3 and 4.
		numbers [8]int
		ops     []api.Op
	}{
		{[8]int{}, nil},
		{[8]int{1, 2, 3, 4, 5, 5, 4, 3}, nil},
		{[8]int{6}, []api.Op{at(5, 1), sync()}},
		{[8]int{7, 6, 6, 256, 0, 0, 0, 0}, []api.Op{at(5, 4), sync()}},
		{[8]int{0, 6, 0, 6, 6, 0, 6, 5}, []api.Op{at(1, 1), at(6, 1), at(8, 2), sync()}},
		{[8]int{6, 6, 6, 6, 6, 6, 6, 6}, []api.Op{at(0, 3), at(5, 5), sync()}},
		{[8]int{5, 5, 5, 5, 6, 6, 5, 5}, []api.Op{at(0, 1), at(9, 1), sync()}},
		{[8]int{0, 0, 0, 0, 0, 0, 0, 65535}, []api.Op{at(2, 1), sync()}},
	} {
		ring := turned(10, 3, sectorsOf(1, 5, text(0, 1)))
		for i, n := range x.numbers {
			ring[(5+i)%10] = s(n)
		}
		expectOpen(t, "other sectors", holding(31, r, payloadOf(3, 5), ring...), of(r, 3, 5, 2), record5, x.ops)
	}
	// The sectors of records are not free, even if all of the ring belongs to them.
	full := turned(10, 9, joined(5, 9, 9, 1))
	expectModel(t, "a full ring", r, 9, 5, full)
	for p := range full {
		for _, n := range []int{0, 4, 5, 6, 7, 8, 9} {
			other := slices.Clone(full)
			other[p] = s(n)
			expectModel(t, "another sector", r, 9, 5, other)
		}
	}
}

func TestP142OpenAnything(t *testing.T) {
	for seed := range 3000 {
		next := random(uint32(seed))
		n := 4 + next(12)
		r := region(next(3), 16+n)
		head, first := next(n), 1+next(4)
		if next(5) == 0 {
			first = api.MaxTime - next(4)
		}
		ring := zeros(n)
		for i := range ring {
			number := max(0, first-2) + next(6)
			ring[i] = api.Sector{byte(number), byte(number >> 8), byte(number >> 16), byte(number >> 24), byte(next(3))}
		}
		at := head
		for i := range next(5) {
			for _, s := range sectorsOf(1+next(255), first+i+next(7)/6, text(next(256), next(9))) {
				if next(12) > 0 {
					ring[at] = s
				}
				at = (at + 1) % n
			}
		}
		expectModel(t, "any sectors", r, head, first, ring)
	}
}

// state is a disk with a journal, and the records that it has to have.
type state struct {
	d       api.Disk
	j       api.Journal
	records []api.Record
}

// begin is a disk with an empty journal in a region.
func begin(t *testing.T, size int, r api.Region) state {
	t.Helper()
	d, j := formatted(t, size, r)
	return state{d: d, j: j}
}

// add is the state behind Append, with its operations; the disk is as before.
func (s state) add(t *testing.T, kind int, payload []byte) (state, []api.Op) {
	t.Helper()
	j, ops, err := journal.Append(s.j, kind, payload)
	if err != api.OK {
		t.Fatalf("Append: got %d", err)
	}
	added := api.Record{Kind: kind, Sequence: journal.Next(s.j), Payload: payload}
	return state{s.d, j, append(slices.Clone(s.records), added)}, ops
}

// free is the state behind Release of n records, with its operations; the disk is as before.
func (s state) free(t *testing.T, n int) (state, []api.Op) {
	t.Helper()
	j, ops, err := journal.Release(s.d, s.j, s.j.First-1+n)
	if err != api.OK {
		t.Fatalf("Release: got %d", err)
	}
	return state{s.d, j, s.records[n:]}, ops
}

// executed is the state whose disk has executed operations.
func (s state) executed(t *testing.T, ops []api.Op) state {
	t.Helper()
	s.d = run(t, s.d, ops)
	return s
}

// isOpened reports whether Open of a disk is that of a state.
func (s state) isOpened(d api.Disk) bool {
	j, l, _, err := journal.Open(d, s.j.Region)
	return err == api.OK && sameJournal(j, s.j) && slices.EqualFunc(l, s.records, sameRecord)
}

func TestP143Complete(t *testing.T) {
	for seed := range 60 {
		next := random(uint32(seed))
		r := region(next(4), 20+next(30))
		s := begin(t, r.Start+r.Count+next(3), r)
		before := s.d
		for range 80 {
			var ops []api.Op
			if length := next(12); next(3) > 0 && record.Size(length) <= journal.Free(s.j) {
				s, ops = s.add(t, 1+next(255), text(next(256), length))
			} else {
				s, ops = s.free(t, next(len(s.records)+1))
			}
			s = s.executed(t, ops)
			expectOpen(t, "behind all operations", s.d, s.j, s.records, nil)
			crashed, _ := disk.Crash(s.d, []int{next(5), next(5), next(5)})
			expectOpen(t, "behind all operations and a crash", crashed, s.j, s.records, nil)
		}
		end := r.Start + r.Count
		if !slices.Equal(s.d.Stable[:r.Start], before.Stable[:r.Start]) || !slices.Equal(s.d.Stable[end:], before.Stable[end:]) {
			t.Errorf("sectors outside of %v are written", r)
		}
	}
}

// bits are decisions for n sectors.
func bits(m, n int) []int {
	var l []int
	for i := range n {
		l = append(l, m>>i&1)
	}
	return l
}

// expectOneOf reports a disk whose journal is that of neither state, and returns the one that it is.
func expectOneOf(t *testing.T, what string, d api.Disk, states ...state) state {
	t.Helper()
	for _, s := range states {
		if s.isOpened(d) {
			s.d = d
			return s
		}
	}
	j, l, _, err := journal.Open(d, states[0].j.Region)
	t.Fatalf("%s: Open: got %v, %v, %d, want one of %v", what, j, l, err, states)
	return state{}
}

// recovered is the state behind the operations of Open, which are interrupted in all ways before.
func recovered(t *testing.T, s state) state {
	t.Helper()
	_, _, ops, _ := journal.Open(s.d, s.j.Region)
	for after := range len(ops) + 1 {
		for m := range 16 {
			crashed, _, err := disk.Interrupt(s.d, ops, after, bits(m*5+m/4, 8))
			if err != api.OK {
				t.Fatalf("Interrupt: got %d", err)
			}
			again := expectOneOf(t, "an interrupted Open", crashed, s)
			_, _, more, _ := journal.Open(crashed, s.j.Region)
			again = again.executed(t, more)
			expectOpen(t, "behind the operations of a second Open", again.d, s.j, s.records, nil)
		}
	}
	s = s.executed(t, ops)
	expectOpen(t, "behind the operations of Open", s.d, s.j, s.records, nil)
	return s
}

// used are journals with records, among them those whose next record stands around the end of the ring.
func used(t *testing.T) []state {
	t.Helper()
	empty := begin(t, 30, region(2, 26))
	l := []state{empty}
	for _, n := range []int{2, 3, 4} {
		s := empty
		for i := range n {
			after, ops := s.add(t, 9, text(i*3, 1))
			s = after.executed(t, ops)
		}
		l = append(l, s)
		after, ops := s.free(t, n-1)
		s = after.executed(t, ops)
		l = append(l, s)
		after, ops = s.add(t, 8, text(77, 9))
		l = append(l, after.executed(t, ops))
	}
	return l
}

func TestP143InterruptedAppend(t *testing.T) {
	for _, s := range used(t) {
		for length := range 20 {
			size := record.Size(length)
			if size > journal.Free(s.j) {
				continue
			}
			after, ops := s.add(t, 5, text(length, length))
			for n := range len(ops) + 1 {
				for m := range 1 << size {
					crashed, _, err := disk.Interrupt(s.d, ops, n, bits(m, size))
					if err != api.OK {
						t.Fatalf("Interrupt: got %d", err)
					}
					got := expectOneOf(t, "an interrupted Append", crashed, s, after)
					// The new record is there as soon as all of it is, and is not before.
					whole := n == len(ops) || n == len(ops)-1 && m == 1<<size-1
					if whole != sameJournal(got.j, after.j) {
						t.Errorf("an Append interrupted behind %d operations (%b): got %v", n, m, got.j)
					}
					if m%37 == 0 {
						recovered(t, got)
					}
				}
			}
		}
	}
}

func TestP143InterruptedRelease(t *testing.T) {
	for _, s := range used(t) {
		for gone := range len(s.records) {
			after, ops := s.free(t, gone+1)
			for n := range len(ops) + 1 {
				for m := range 256 {
					crashed, _, err := disk.Interrupt(s.d, ops, n, bits(m, 8))
					if err != api.OK {
						t.Fatalf("Interrupt: got %d", err)
					}
					got := expectOneOf(t, "an interrupted Release", crashed, s, after)
					if n == len(ops) && !sameJournal(got.j, after.j) || n == 0 && !sameJournal(got.j, s.j) {
						t.Errorf("a Release interrupted behind %d operations: got %v", n, got.j)
					}
					if m%37 == 0 {
						expectOpen(t, "an interrupted Release", crashed, got.j, got.records, nil)
					}
				}
			}
		}
	}
}

// step is what happens to a journal: a record with a payload of some length is appended, or some records are released; it is interrupted behind some operations, by a crash with some choices.
type step struct {
	length, gone, after int
	choices             []int
}

// steps are steps that look random; most are not interrupted.
func steps(next func(int) int, n int) []step {
	var l []step
	for range n {
		x := step{length: next(14), gone: next(4), after: 9, choices: bits(next(4096), 12)}
		if next(3) == 0 {
			x.after = next(4)
		}
		l = append(l, x)
	}
	return l
}

// expectSteps carries out steps with given payloads, and returns the sizes and numbers of the journals behind them.
func expectSteps(t *testing.T, l []step, payload func(i, length int, j api.Journal) []byte) []api.Journal {
	t.Helper()
	s := begin(t, 40, region(1, 35))
	before := s.d
	var journals []api.Journal
	for i, x := range l {
		after, ops := s, []api.Op(nil)
		if record.Size(x.length) <= journal.Free(s.j) {
			after, ops = s.add(t, 1+i%255, payload(i, x.length, s.j))
		} else {
			after, ops = s.free(t, min(x.gone, len(s.records)))
		}
		if x.after >= len(ops) {
			s = after.executed(t, ops)
		} else {
			crashed, _, err := disk.Interrupt(s.d, ops, x.after, x.choices)
			if err != api.OK {
				t.Fatalf("Interrupt: got %d", err)
			}
			s = recovered(t, expectOneOf(t, "an interrupted step", crashed, s, after))
		}
		journals = append(journals, s.j)
	}
	if !slices.Equal(s.d.Stable[:1], before.Stable[:1]) || !slices.Equal(s.d.Stable[36:], before.Stable[36:]) {
		t.Errorf("sectors outside of the region are written")
	}
	return journals
}

// The payloads never matter for which records there are, even if they imitate sectors of records.
func TestP143AnyPayload(t *testing.T) {
	for seed := range 60 {
		l := steps(random(uint32(seed)), 60)
		want := expectSteps(t, l, func(i, length int, _ api.Journal) []byte { return make([]byte, length) })
		for _, payload := range []func(i, length int, j api.Journal) []byte{
			func(i, length int, _ api.Journal) []byte { return text(i*31, length) },
			func(i, length int, _ api.Journal) []byte { return text(5, length) },
			func(_, length int, j api.Journal) []byte {
				var b []byte
				for _, s := range sectorsOf(1, journal.Next(j)+1, text(1, 9)) {
					b = append(b, s[:]...)
				}
				return b[:length]
			},
			func(_, length int, j api.Journal) []byte {
				return slices.Repeat([]byte{byte(journal.Next(j)), 0, 0, 0}, 4)[:length]
			},
		} {
			if got := expectSteps(t, l, payload); !slices.EqualFunc(got, want, sameJournal) {
				t.Errorf("other payloads lead to %v, want %v", got, want)
			}
		}
	}
}

// An Append that was interrupted leaves nothing that the next one with the same number could be taken for.
func TestP143AppendAgain(t *testing.T) {
	for _, s := range used(t) {
		if journal.Free(s.j) < 4 {
			continue
		}
		first, ops := s.add(t, 5, text(1, 6))
		for m := range 15 {
			crashed, _, _ := disk.Interrupt(s.d, ops, len(ops)-1, bits(m, 4))
			again := recovered(t, expectOneOf(t, "an interrupted Append", crashed, s, first))
			if !sameJournal(again.j, s.j) {
				t.Fatalf("an incomplete record is found")
			}
			second, more := again.add(t, 6, text(90, 9))
			for k := range 16 {
				crashed, _, _ := disk.Interrupt(again.d, more, len(more)-1, bits(k, 4))
				got := expectOneOf(t, "the second Append", crashed, again, second)
				if (k == 15) != sameJournal(got.j, second.j) {
					t.Errorf("the second Append with the choices %b: got %v", k, got.j)
				}
			}
		}
	}
}

// argument is a disk with a journal and spare capacity, and that journal.
func argument(t *testing.T) (api.Disk, api.Journal) {
	t.Helper()
	d, j := formatted(t, 24, region(0, 24))
	d, j = appended(t, d, j, 1, text(1, 1))
	d, j = appended(t, d, j, 2, text(2, 1))
	_, ops, _ := journal.Append(j, 3, text(3, 2))
	d, _, _ = disk.Run(d, ops[:1])
	// The last sector of the third record is missing.
	d.Cache = append(slices.Clone(d.Cache[:2]), api.Cached{At: 99})[:2]
	j.Sizes = append(slices.Clone(j.Sizes), 77, 78)[:2]
	return d, j
}

// results are what the functions make of their arguments.
func results(d api.Disk, j api.Journal, payload []byte) ([]api.Journal, []api.Op, []api.Record) {
	appended, ops, _ := journal.Append(j, 3, payload)
	turned, more, _ := journal.Append(of(region(0, 24), 6, 1, 2, 2), 3, payload)
	wrapped, around, _ := journal.Append(of(region(0, 24), 6, 1), 3, payload)
	released, stored, _ := journal.Release(d, j, 1)
	unchanged, _, _ := journal.Release(d, j, 0)
	opened, records, removed, _ := journal.Open(d, region(0, 24))
	return []api.Journal{appended, turned, wrapped, released, unchanged, opened}, slices.Concat(ops, more, around, stored, removed), records
}

func TestValues(t *testing.T) {
	d, j := argument(t)
	payload := text(4, 12)
	journals, ops, records := results(d, j, payload[:5])
	e, k := argument(t)
	wanted, wantedOps, wantedRecords := results(e, k, text(4, 5))
	if !slices.Equal(d.Stable, e.Stable) || !slices.Equal(d.Cache[:3], e.Cache[:3]) || !slices.Equal(j.Sizes[:4], k.Sizes[:4]) || !slices.Equal(payload, text(4, 12)) {
		t.Errorf("an argument is modified: %v, %v, %v", d, j, payload)
	}
	clear(d.Stable)
	clear(d.Cache)
	clear(j.Sizes)
	clear(payload)
	for i := range journals {
		if !sameJournal(journals[i], wanted[i]) {
			t.Errorf("a journal after a change of the arguments or of others: got %v, want %v", journals[i], wanted[i])
		}
		clear(journals[i].Sizes[:cap(journals[i].Sizes)])
	}
	for i := range ops {
		if !sameOp(ops[i], wantedOps[i]) {
			t.Errorf("an operation after a change of the arguments or of others: got %v, want %v", ops[i], wantedOps[i])
		}
		clear(ops[i].Data[:cap(ops[i].Data)])
	}
	for i := range records {
		if !sameRecord(records[i], wantedRecords[i]) {
			t.Errorf("a record after a change of the arguments or of others: got %v, want %v", records[i], wantedRecords[i])
		}
		clear(records[i].Payload[:cap(records[i].Payload)])
	}
	if len(ops) != 11 || len(records) != 2 {
		t.Errorf("%d operations, %d records", len(ops), len(records))
	}
}
