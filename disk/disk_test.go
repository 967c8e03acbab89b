package disk_test

import (
	"math"
	"slices"
	"testing"

	"standby/api"
	"standby/disk"
	"standby/extent"
)

// sec is a sector all of whose bytes depend on a number.
func sec(n int) api.Sector {
	if n == 0 {
		return api.Sector{}
	}
	return api.Sector{byte(n), byte(n >> 8), 3, 4, 5, 6, 7, byte(255 - n)}
}

func secs(numbers ...int) []api.Sector {
	var l []api.Sector
	for _, n := range numbers {
		l = append(l, sec(n))
	}
	return l
}

func write(at int, numbers ...int) api.Op {
	return api.Op{Kind: api.OpWrite, At: at, Data: secs(numbers...)}
}

func sync() api.Op {
	return api.Op{Kind: api.OpSync}
}

func cached(at, n int) api.Cached {
	return api.Cached{At: at, Data: sec(n)}
}

func of(stable []api.Sector, cache ...api.Cached) api.Disk {
	return api.Disk{Stable: stable, Cache: cache}
}

// random returns numbers from 0 to n - 1 that look random.
func random(seed uint32) func(n int) int {
	return func(n int) int {
		seed = seed*1664525 + 1013904223
		return int(seed>>8) % n
	}
}

// randomDisk is a disk with some sectors in its cache.
func randomDisk(next func(int) int, size, writes int) api.Disk {
	var d api.Disk
	for range size {
		d.Stable = append(d.Stable, sec(next(5)))
	}
	for range writes {
		d.Cache = append(d.Cache, cached(next(size), next(200)))
	}
	return d
}

// randomOps are operations for a disk of some size.
func randomOps(next func(int) int, size, n int) []api.Op {
	var ops []api.Op
	for range n {
		if next(4) == 0 {
			ops = append(ops, sync())
			continue
		}
		at := next(size + 1)
		op := write(at)
		for range next(size - at + 1) {
			op.Data = append(op.Data, sec(next(200)))
		}
		ops = append(ops, op)
	}
	return ops
}

// disks are disks that Check accepts.
func disks() []api.Disk {
	l := []api.Disk{
		{},
		{Stable: []api.Sector{}, Cache: []api.Cached{}},
		of(secs(0)),
		of(secs(7)),
		of(secs(0), cached(0, 1)),
		of(secs(4), cached(0, 1), cached(0, 0), cached(0, 1)),
		of(secs(0, 0, 0), cached(0, 1), cached(1, 2), cached(1, 3)),
		of(secs(1, 2, 3, 4), cached(3, 9), cached(0, 8), cached(3, 7), cached(0, 6)),
		of(secs(1, 2, 3, 4, 5), cached(4, 9), cached(2, 8), cached(1, 7), cached(4, 4)),
		of(make([]api.Sector, api.MaxSectors)),
		of(make([]api.Sector, api.MaxSectors), cached(api.MaxSectors-1, 9), cached(0, 8)),
	}
	for seed := range 20 {
		next := random(uint32(seed))
		l = append(l, randomDisk(next, 1+next(7), next(12)))
	}
	return l
}

// wrongDisks are disks that Check refuses.
func wrongDisks() []api.Disk {
	return []api.Disk{
		of(make([]api.Sector, api.MaxSectors+1)),
		of(make([]api.Sector, api.MaxSectors+1), cached(0, 1)),
		of(nil, cached(0, 1)),
		of(secs(1, 2, 3), cached(3, 1)),
		of(secs(1, 2, 3), cached(-1, 1)),
		of(secs(1, 2, 3), cached(math.MaxInt, 1)),
		of(secs(1, 2, 3), cached(math.MinInt, 1)),
		of(secs(1, 2, 3), cached(0, 1), cached(2, 3), cached(4, 5)),
		of(secs(1, 2, 3), cached(-2, 1), cached(2, 3)),
		of(make([]api.Sector, api.MaxSectors), cached(api.MaxSectors, 1)),
	}
}

func equal(a, b api.Disk) bool {
	return slices.Equal(a.Stable, b.Stable) && slices.Equal(a.Cache, b.Cache)
}

// expect reports a disk or an error that is not the wanted one; beside an error the disk has to be empty.
func expect(t *testing.T, what string, got api.Disk, err api.Errno, want api.Disk, code api.Errno) {
	t.Helper()
	if code != api.OK {
		want = api.Disk{}
	}
	if err != code || !equal(got, want) {
		t.Errorf("%s: got %v, %d, want %v, %d", what, got, err, want, code)
	}
}

func expectInts(t *testing.T, what string, got, want []int) {
	t.Helper()
	if !slices.Equal(got, want) {
		t.Errorf("%s: got %v, want %v", what, got, want)
	}
}

// newest are the newest contents by the definition: that of the last occurrence in the cache, or the stable one.
func newest(d api.Disk) []api.Sector {
	var l []api.Sector
	for at, content := range d.Stable {
		for i := len(d.Cache) - 1; i >= 0; i-- {
			if d.Cache[i].At == at {
				content = d.Cache[i].Data
				break
			}
		}
		l = append(l, content)
	}
	return l
}

// possible are the stable content of a sector and its occurrences in the cache, in the order of the writes.
func possible(d api.Disk, at int) []api.Sector {
	l := []api.Sector{d.Stable[at]}
	for _, c := range d.Cache {
		if c.At == at {
			l = append(l, c.Data)
		}
	}
	return l
}

// crashed is the disk after a crash by the definition, with the number of decisions.
func crashed(d api.Disk, choices []int) (api.Disk, int) {
	var after api.Disk
	taken := 0
	for at := range d.Stable {
		l := possible(d, at)
		i := 0
		if len(l) > 1 {
			if taken < len(choices) {
				for i = choices[taken] % len(l); i < 0; {
					i += len(l)
				}
			}
			taken++
		}
		after.Stable = append(after.Stable, l[i])
	}
	return after, taken
}

// run executes operations one after another by the functions Write and Sync.
func run(t *testing.T, d api.Disk, ops []api.Op) api.Disk {
	t.Helper()
	for _, op := range ops {
		if op.Kind == api.OpSync {
			d = disk.Sync(d)
			continue
		}
		var err api.Errno
		if d, err = disk.Write(d, op.At, op.Data); err != api.OK {
			t.Fatalf("Write(%v): got %d", op, err)
		}
	}
	return d
}

func TestP91New(t *testing.T) {
	for _, size := range []int{0, 1, 2, 7, api.MaxSectors - 1, api.MaxSectors} {
		d, err := disk.New(size)
		expect(t, "New", d, err, of(make([]api.Sector, size)), api.OK)
	}
	for _, size := range []int{math.MinInt, -4096, -1, api.MaxSectors + 1, math.MaxInt} {
		d, err := disk.New(size)
		expect(t, "New with a wrong size", d, err, api.Disk{}, api.ErrRange)
	}
}

func TestP91Check(t *testing.T) {
	for i, d := range disks() {
		if err := disk.Check(d); err != api.OK {
			t.Errorf("Check of the disk %d: got %d", i, err)
		}
	}
	for i, d := range wrongDisks() {
		if err := disk.Check(d); err != api.ErrRange {
			t.Errorf("Check of the wrong disk %d: got %d", i, err)
		}
	}
}

func TestP91Write(t *testing.T) {
	for _, d := range disks() {
		size := len(d.Stable)
		for at := max(0, size-8); at <= size; at++ {
			for n := range size - at + 1 {
				want := of(d.Stable, d.Cache...)
				var data []api.Sector
				for i := range n {
					data = append(data, sec(50+i))
					want.Cache = append(slices.Clone(want.Cache), cached(at+i, 50+i))
				}
				got, err := disk.Write(d, at, data)
				expect(t, "Write", got, err, want, api.OK)
			}
		}
		for _, c := range [][2]int{
			{-1, 0}, {-1, 1}, {-1, 2}, {math.MinInt, 0}, {math.MinInt, 1}, {-size, size + 1},
			{size, 1}, {size + 1, 0}, {size + 1, 1}, {0, size + 1}, {max(0, size-1), 2},
			{math.MaxInt, 0}, {math.MaxInt, 1}, {math.MaxInt - 1, 3},
		} {
			got, err := disk.Write(d, c[0], make([]api.Sector, c[1]))
			expect(t, "Write beyond a disk", got, err, api.Disk{}, api.ErrRange)
		}
	}
	for _, d := range wrongDisks() {
		for at := range 2 {
			got, err := disk.Write(d, at, nil)
			expect(t, "Write on a wrong disk", got, err, api.Disk{}, api.ErrRange)
		}
	}
	full := make([]api.Sector, api.MaxSectors)
	d, err := disk.Write(of(full), 0, full)
	if err != api.OK || len(d.Cache) != api.MaxSectors || d.Cache[4095].At != 4095 {
		t.Errorf("Write of all sectors: %d sectors in the cache, the error %d", len(d.Cache), err)
	}
}

func TestP91Read(t *testing.T) {
	for _, d := range disks() {
		size := len(d.Stable)
		all := newest(d)
		for start := max(0, size-8); start <= size; start++ {
			for count := range size - start + 1 {
				got, err := disk.Read(d, api.Extent{Start: start, Count: count})
				if err != api.OK || !slices.Equal(got, all[start:start+count]) {
					t.Errorf("Read(%v, %d+%d): got %v, %d", d, start, count, got, err)
				}
			}
		}
		got, err := disk.Read(d, api.Extent{Count: size})
		if err != api.OK || !slices.Equal(got, all) {
			t.Errorf("Read of a whole disk: got %v, %d, want %v", got, err, all)
		}
		for _, e := range []api.Extent{
			{Start: -1}, {Start: -1, Count: 1}, {Start: -1, Count: 2}, {Count: -1}, {Start: size, Count: -1}, {Start: -1, Count: -1},
			{Start: size, Count: 1}, {Start: size + 1}, {Count: size + 1}, {Start: size + 1, Count: -1},
			{Start: math.MaxInt, Count: math.MaxInt}, {Start: math.MaxInt}, {Count: math.MaxInt}, {Start: 1, Count: math.MaxInt},
			{Start: math.MinInt, Count: math.MinInt}, {Start: math.MinInt}, {Count: math.MinInt}, {Start: math.MinInt, Count: math.MaxInt}, {Start: math.MaxInt, Count: math.MinInt},
		} {
			got, err := disk.Read(d, e)
			if err != api.ErrRange || len(got) > 0 {
				t.Errorf("Read(%v) on %d sectors: got %v, %d", e, size, got, err)
			}
		}
	}
	for i, d := range wrongDisks() {
		got, err := disk.Read(d, api.Extent{})
		if err != api.ErrRange || len(got) > 0 {
			t.Errorf("Read on the wrong disk %d: got %v, %d", i, got, err)
		}
	}
}

func TestP91Sync(t *testing.T) {
	for _, d := range disks() {
		expect(t, "Sync", disk.Sync(d), api.OK, of(newest(d)), api.OK)
	}
	for _, d := range wrongDisks() {
		expect(t, "Sync of a wrong disk", disk.Sync(d), api.OK, d, api.OK)
	}
}

func TestP91Unsynced(t *testing.T) {
	for _, d := range disks() {
		got := disk.Unsynced(d)
		if err := extent.Check(got, len(d.Stable)); err != api.OK {
			t.Errorf("Unsynced(%v): %v is not canonical, %d", d, got, err)
		}
		for at := range d.Stable {
			if extent.Contains(got, at) != (len(possible(d, at)) > 1) {
				t.Errorf("Unsynced(%v): got %v, wrong for the sector %d", d, got, at)
			}
		}
	}
	for i, d := range wrongDisks() {
		if got := disk.Unsynced(d); len(got) > 0 {
			t.Errorf("Unsynced of the wrong disk %d: got %v", i, got)
		}
	}
	d := of(make([]api.Sector, 9), cached(6, 1), cached(2, 1), cached(3, 1), cached(8, 1), cached(2, 2), cached(1, 1))
	if got := disk.Unsynced(d); !slices.Equal(got, []api.Extent{{Start: 1, Count: 3}, {Start: 6, Count: 1}, {Start: 8, Count: 1}}) {
		t.Errorf("Unsynced: got %v", got)
	}
}

func TestP92Example1(t *testing.T) {
	const a, b, c = 1, 2, 3
	d, _ := disk.New(3)
	d = run(t, d, []api.Op{write(0, a, b), write(1, c)})
	expect(t, "the writes", d, api.OK, of(secs(0, 0, 0), cached(0, a), cached(1, b), cached(1, c)), api.OK)
	if got, err := disk.Read(d, api.Extent{Start: 0, Count: 3}); err != api.OK || !slices.Equal(got, secs(a, c, 0)) {
		t.Errorf("Read: got %v, %d", got, err)
	}
	for _, x := range []struct {
		choices []int
		want    []api.Sector
	}{
		{[]int{1, 1}, secs(a, b, 0)},
		{[]int{0, 2}, secs(0, c, 0)},
		{[]int{4, 5}, secs(0, c, 0)},
		{nil, secs(0, 0, 0)},
		{[]int{-1, -1}, secs(a, c, 0)},
		{[]int{1}, secs(a, 0, 0)},
	} {
		got, left := disk.Crash(d, x.choices)
		expect(t, "Crash", got, api.OK, of(x.want), api.OK)
		expectInts(t, "the choices that are left", left, nil)
	}
	_, err := disk.Write(d, 3, secs(a))
	same, none := disk.Write(d, 3, nil)
	if err != api.ErrRange || none != api.OK || !equal(same, d) {
		t.Errorf("Write at 3 of one sector: got %d, of none: %d", err, none)
	}
}

func TestP92Example2(t *testing.T) {
	const a, b = 1, 2
	d, _ := disk.New(1)
	ops := []api.Op{write(0, a), sync(), write(0, b)}
	for choice := -3; choice < 4; choice++ {
		got, left, err := disk.Interrupt(d, ops, 2, []int{choice, 7})
		expect(t, "an interruption behind two operations", got, err, of(secs(a)), api.OK)
		expectInts(t, "the choices that are left", left, []int{choice, 7})
	}
	got, left, err := disk.Interrupt(d, ops, 3, []int{1})
	expect(t, "an interruption behind three operations", got, err, of(secs(b)), api.OK)
	expectInts(t, "the choices that are left", left, nil)
}

func TestP92Run(t *testing.T) {
	for i, d := range disks() {
		size := len(d.Stable)
		if size > 100 {
			continue
		}
		next := random(uint32(100 + i))
		for n := range 8 {
			ops := randomOps(next, size, n)
			got, count, err := disk.Run(d, ops)
			expect(t, "Run", got, err, run(t, d, ops), api.OK)
			if count != n {
				t.Errorf("Run of %d operations: got %d", n, count)
			}
		}
	}
	// A sync does not look at the other fields.
	got, n, err := disk.Run(of(secs(1), cached(0, 2)), []api.Op{{Kind: api.OpSync, At: -5, Data: secs(1, 2, 3)}})
	expect(t, "a sync with sectors", got, err, of(secs(2)), api.OK)
	if n != 1 {
		t.Errorf("a sync with sectors: got %d", n)
	}
}

func TestP92RunErrors(t *testing.T) {
	d := of(secs(1, 2, 3), cached(1, 5))
	type fault struct {
		op  api.Op
		err api.Errno
	}
	faults := []fault{
		{write(3, 1), api.ErrRange}, {write(4), api.ErrRange}, {write(-1), api.ErrRange}, {write(-1, 1), api.ErrRange},
		{write(2, 1, 1), api.ErrRange}, {write(math.MaxInt, 1), api.ErrRange}, {write(math.MinInt, 1), api.ErrRange},
	}
	for _, kind := range []int{math.MinInt, -1, 2, 3, 255, 256, math.MaxInt} {
		// The kind is looked at before the sectors.
		faults = append(faults, fault{api.Op{Kind: kind}, api.ErrArg}, fault{api.Op{Kind: kind, At: -1, Data: secs(1)}, api.ErrArg})
	}
	good := []api.Op{write(0, 7), sync(), write(1, 8, 9), sync(), write(3)}
	for _, f := range faults {
		for i := range len(good) + 1 {
			// The first operation with an error decides.
			ops := slices.Concat(good[:i], []api.Op{f.op}, good[i:], []api.Op{{Kind: 7}, write(9, 9)})
			got, n, err := disk.Run(d, ops)
			expect(t, "Run with an error", got, err, api.Disk{}, f.err)
			if n != i {
				t.Errorf("Run with an error at %d: got %d", i, n)
			}
		}
	}
	for _, d := range wrongDisks() {
		for _, ops := range [][]api.Op{nil, {sync()}, {sync(), {Kind: 9}}, {{Kind: 9}}} {
			got, n, err := disk.Run(d, ops)
			expect(t, "Run on a wrong disk", got, err, api.Disk{}, api.ErrRange)
			if n != 0 {
				t.Errorf("Run on a wrong disk: got %d", n)
			}
		}
	}
}

func TestP92Crash(t *testing.T) {
	for i, d := range disks() {
		next := random(uint32(i))
		lists := [][]int{nil, {0}, {1}, {-1}, {0, 0, 0}, {1, 1, 1, 1}, {2, 2, 2, 2}, {-1, -1, -1, -1, -1, -1, -1, -1}, {math.MinInt, math.MaxInt, math.MinInt, math.MaxInt}}
		for range 40 {
			var l []int
			for range next(10) {
				l = append(l, next(50)-25)
			}
			lists = append(lists, l)
		}
		for _, choices := range lists {
			want, taken := crashed(d, choices)
			got, left := disk.Crash(d, choices)
			expect(t, "Crash", got, api.OK, want, api.OK)
			expectInts(t, "the choices that are left", left, choices[min(taken, len(choices)):])
		}
	}
	for _, d := range wrongDisks() {
		for _, choices := range [][]int{nil, {1}, {5, -6, 7}} {
			got, left := disk.Crash(d, choices)
			expect(t, "Crash of a wrong disk", got, api.OK, d, api.OK)
			expectInts(t, "the choices of a wrong disk", left, choices)
		}
	}
}

func TestP92Interrupt(t *testing.T) {
	for i, d := range disks() {
		size := len(d.Stable)
		if size > 100 {
			continue
		}
		next := random(uint32(200 + i))
		ops := randomOps(next, size, 6)
		choices := []int{next(9), -next(9), next(9), next(9) - 4, next(9)}
		// An operation that is not executed has no error.
		faulty := append(slices.Clone(ops), api.Op{Kind: 9}, write(-1))
		for after := range len(ops) + 1 {
			want, taken := crashed(run(t, d, ops[:after]), choices)
			got, left, err := disk.Interrupt(d, faulty, after, choices)
			expect(t, "Interrupt", got, err, want, api.OK)
			expectInts(t, "the choices that are left", left, choices[min(taken, len(choices)):])
		}
	}
}

func TestP92InterruptErrors(t *testing.T) {
	good, bad := of(secs(1, 2, 3), cached(1, 5)), of(secs(1), cached(1, 5))
	wrongKind, outside := api.Op{Kind: 2, At: -1}, write(3, 1)
	for _, x := range []struct {
		d     api.Disk
		ops   []api.Op
		after int
		want  api.Errno
	}{
		{bad, nil, 0, api.ErrRange},
		{bad, []api.Op{wrongKind}, 1, api.ErrRange},
		{good, nil, -1, api.ErrRange},
		{good, nil, 1, api.ErrRange},
		{good, nil, math.MinInt, api.ErrRange},
		{good, nil, math.MaxInt, api.ErrRange},
		// The number of operations is checked before the operations.
		{good, []api.Op{wrongKind}, -1, api.ErrRange},
		{good, []api.Op{wrongKind}, 2, api.ErrRange},
		{good, []api.Op{sync(), wrongKind}, 3, api.ErrRange},
		{good, []api.Op{wrongKind, outside}, 1, api.ErrArg},
		{good, []api.Op{wrongKind, outside}, 2, api.ErrArg},
		{good, []api.Op{outside, wrongKind}, 2, api.ErrRange},
		{good, []api.Op{sync(), write(0, 1), wrongKind}, 3, api.ErrArg},
	} {
		got, left, err := disk.Interrupt(x.d, x.ops, x.after, []int{1, 2})
		expect(t, "Interrupt with an error", got, err, api.Disk{}, x.want)
		expectInts(t, "the choices beside an error", left, nil)
	}
	got, left, err := disk.Interrupt(good, []api.Op{wrongKind}, 0, []int{1, 2})
	expect(t, "Interrupt before an error", got, err, of(secs(1, 5, 3)), api.OK)
	expectInts(t, "the choices that are left", left, []int{2})
}

func TestP93WrittenIsRead(t *testing.T) {
	for seed := range 40 {
		next := random(uint32(seed))
		size := 1 + next(9)
		d := randomDisk(next, size, next(9))
		contents := newest(d)
		for range 20 {
			op := randomOps(next, size, 1)[0]
			copy(contents[min(op.At, size):], op.Data)
			stable := d.Stable
			d = run(t, d, []api.Op{op})
			got, err := disk.Read(d, api.Extent{Count: size})
			if err != api.OK || !slices.Equal(got, contents) {
				t.Fatalf("Read behind %v: got %v, want %v", op, got, contents)
			}
			if op.Kind == api.OpWrite && !slices.Equal(d.Stable, stable) {
				t.Fatalf("%v changes the stable contents", op)
			}
		}
	}
}

// outcomes calls f with all choices that decide differently about the sectors of a cache.
func outcomes(d api.Disk, f func(choices []int)) {
	choices := []int{}
	var decide func(at int)
	decide = func(at int) {
		if at == len(d.Stable) {
			f(choices)
			return
		}
		n := len(possible(d, at))
		if n == 1 {
			decide(at + 1)
			return
		}
		for i := range n {
			choices = append(choices, i)
			decide(at + 1)
			choices = choices[:len(choices)-1]
		}
	}
	decide(0)
}

func TestP93CrashContents(t *testing.T) {
	for seed := range 30 {
		next := random(uint32(seed))
		d := randomDisk(next, 1+next(5), next(8))
		seen := make([]map[api.Sector]bool, len(d.Stable))
		for at := range seen {
			seen[at] = map[api.Sector]bool{}
		}
		outcomes(d, func(choices []int) {
			after, left := disk.Crash(d, choices)
			if len(after.Stable) != len(d.Stable) || len(after.Cache) > 0 || len(left) > 0 {
				t.Fatalf("Crash(%v, %v): got %v, %v is left", d, choices, after, left)
			}
			for at, content := range after.Stable {
				if !slices.Contains(possible(d, at), content) {
					t.Fatalf("Crash(%v, %v): %v appears at %d", d, choices, content, at)
				}
				seen[at][content] = true
			}
		})
		for at, contents := range seen {
			for _, content := range possible(d, at) {
				if !contents[content] {
					t.Errorf("no crash of %v has %v at %d", d, content, at)
				}
			}
		}
	}
}

func TestP93CrashBehindSync(t *testing.T) {
	for i, d := range disks() {
		synced := disk.Sync(d)
		for _, choices := range [][]int{nil, {1, 2, 3}, {-1, -1}} {
			got, left := disk.Crash(synced, choices)
			expect(t, "Crash behind a sync", got, api.OK, synced, api.OK)
			expectInts(t, "the choices that are left", left, choices)
		}
		if len(disk.Unsynced(synced)) > 0 {
			t.Errorf("the disk %d behind a sync has sectors that are not stable", i)
		}
	}
}

func TestP93RunInParts(t *testing.T) {
	for seed := range 30 {
		next := random(uint32(seed))
		size := 1 + next(6)
		d := randomDisk(next, size, next(5))
		ops := randomOps(next, size, 9)
		whole, _, _ := disk.Run(d, ops)
		for i := range ops {
			first, n, err := disk.Run(d, ops[:i])
			second, m, other := disk.Run(first, ops[i:])
			expect(t, "Run in parts", second, other, whole, api.OK)
			if err != api.OK || n != i || n+m != len(ops) {
				t.Errorf("Run in parts: got %d and %d operations, the error %d", n, m, err)
			}
		}
	}
}

func TestP93InterruptBehindSync(t *testing.T) {
	for seed := range 30 {
		next := random(uint32(seed))
		size := 1 + next(4)
		d := randomDisk(next, size, next(5))
		before := randomOps(next, size, next(6))
		want := newest(run(t, d, before))
		behind := randomOps(next, size, next(3))
		ops := slices.Concat(before, []api.Op{sync()}, behind)
		for after := len(before) + 1; after <= len(ops); after++ {
			later := ops[len(before)+1 : after]
			for choice := range 6 {
				got, _, err := disk.Interrupt(d, ops, after, []int{choice, next(9), next(9), next(9)})
				if err != api.OK || len(got.Stable) != size {
					t.Fatalf("Interrupt: got %v, %d", got, err)
				}
				for at, content := range got.Stable {
					// Only what was written behind the sync may be there instead.
					if content != want[at] && !slices.Contains(writtenAt(later, at), content) {
						t.Fatalf("the interruption of %v behind %d loses the sector %d", ops, after, at)
					}
				}
			}
		}
	}
}

// writtenAt are the contents that operations write to a sector.
func writtenAt(ops []api.Op, at int) []api.Sector {
	var l []api.Sector
	for _, op := range ops {
		if i := at - op.At; op.Kind == api.OpWrite && i >= 0 && i < len(op.Data) {
			l = append(l, op.Data[i])
		}
	}
	return l
}

// argument is a disk with spare capacity behind its sectors and its cache.
func argument() api.Disk {
	d := of(secs(1, 2, 3, 4, 77, 78), cached(0, 5), cached(2, 6), cached(0, 7), cached(9, 79), cached(9, 80))
	return api.Disk{Stable: d.Stable[:4], Cache: d.Cache[:3]}
}

// operations are some with spare capacity behind the sectors of the writes.
func operations() []api.Op {
	ops := []api.Op{write(1, 8, 9, 77), sync(), write(3, 4, 77), {Kind: api.OpSync, At: 9, Data: secs(1, 2)}, write(0, 6, 7, 77)}
	for i, op := range ops {
		ops[i].Data = op.Data[:max(0, len(op.Data)-1)]
	}
	return ops
}

// results are what all functions make of their arguments, as disks.
func results(d api.Disk, ops []api.Op, choices []int) []api.Disk {
	written, _ := disk.Write(d, 2, ops[0].Data)
	same, _ := disk.Write(d, 1, nil)
	data, _ := disk.Read(d, api.Extent{Start: 1, Count: 3})
	ran, _, _ := disk.Run(d, ops)
	none, _, _ := disk.Run(d, nil)
	crash, left := disk.Crash(d, choices)
	interrupted, rest, _ := disk.Interrupt(d, ops, 3, choices)
	// A disk that Check refuses is given back, too.
	bad := d
	bad.Stable = bad.Stable[:1]
	badCrash, badLeft := disk.Crash(bad, choices)
	return []api.Disk{written, same, of(data), ran, none, crash, numbered(left), interrupted, numbered(rest), disk.Sync(d), disk.Sync(bad), badCrash, numbered(badLeft)}
}

// numbered is a disk that contains numbers, whose memory is changed.
func numbered(numbers []int) api.Disk {
	d := of(secs(numbers...))
	clear(numbers[:cap(numbers)])
	return d
}

// spoil changes everything that can be reached from a disk, with the spare capacity.
func spoil(d api.Disk) {
	for i := range d.Stable[:cap(d.Stable)] {
		d.Stable[:cap(d.Stable)][i] = sec(999)
	}
	for i := range d.Cache[:cap(d.Cache)] {
		d.Cache[:cap(d.Cache)][i] = cached(0, 999)
	}
}

func TestValues(t *testing.T) {
	d, ops, choices := argument(), operations(), []int{1, 2, 3, 4}
	got := results(d, ops, choices[:3])
	wanted := results(argument(), operations(), []int{1, 2, 3})
	fresh := argument()
	whole := api.Disk{Stable: d.Stable[:6], Cache: d.Cache[:5]}
	expect(t, "the argument", whole, api.OK, api.Disk{Stable: fresh.Stable[:6], Cache: fresh.Cache[:5]}, api.OK)
	expectInts(t, "the choices", choices, []int{1, 2, 3, 4})
	for i, op := range operations() {
		other := ops[i]
		if op.Kind != other.Kind || op.At != other.At || !slices.Equal(op.Data[:cap(op.Data)], other.Data[:cap(other.Data)]) {
			t.Errorf("the operation %d is modified: %v", i, other)
		}
	}
	spoil(d)
	for _, op := range ops {
		spoil(of(op.Data))
	}
	clear(choices)
	for i := range got {
		expect(t, "a result after a change of the arguments", got[i], api.OK, wanted[i], api.OK)
		spoil(got[i])
		for k := i + 1; k < len(got); k++ {
			expect(t, "a result after a change of another one", got[k], api.OK, wanted[k], api.OK)
		}
	}
}
