package superblock_test

import (
	"math"
	"slices"
	"testing"

	"standby/api"
	"standby/disk"
	"standby/superblock"
)

// random returns numbers from 0 to n - 1 that look random.
func random(seed uint32) func(n int) int {
	return func(n int) int {
		seed = seed*1664525 + 1013904223
		return int(seed>>8) % n
	}
}

// text is a payload of some bytes that depend on a number.
func text(n, length int) []byte {
	var l []byte
	for i := range length {
		l = append(l, byte(n+i*7))
	}
	return l
}

// sectorsOf are the sectors of a copy with a generation and 32 bytes of data.
func sectorsOf(generation int, data []byte) []api.Sector {
	var l []api.Sector
	for i := range 8 {
		g := uint32(generation)
		l = append(l, api.Sector{byte(g), byte(g >> 8), byte(g >> 16), byte(g >> 24), data[4*i], data[4*i+1], data[4*i+2], data[4*i+3]})
	}
	return l
}

// dataOf are the data of a copy with a payload.
func dataOf(payload []byte) []byte {
	l := append([]byte{byte(len(payload))}, payload...)
	return append(l, make([]byte, 32-len(l))...)
}

// valid are the sectors of a copy with a generation and a payload.
func valid(generation int, payload []byte) []api.Sector {
	return sectorsOf(generation, dataOf(payload))
}

func zeros(n int) []api.Sector {
	return make([]api.Sector, n)
}

// filled are sectors without zeros.
func filled(n int) []api.Sector {
	l := zeros(n)
	for i := range l {
		l[i] = api.Sector{byte(i), 201, 202, 203, 204, 205, 206, byte(i >> 8)}
	}
	return l
}

// holding is a disk of some sectors that contains a superblock from a sector on.
func holding(size, at int, copy0, copy1 []api.Sector) api.Disk {
	d := api.Disk{Stable: filled(size)}
	copy(d.Stable[at:], copy0)
	copy(d.Stable[at+8:], copy1)
	return d
}

func write(at int, data []api.Sector) api.Op {
	return api.Op{Kind: api.OpWrite, At: at, Data: data}
}

func sync() api.Op {
	return api.Op{Kind: api.OpSync}
}

func expectOps(t *testing.T, what string, got []api.Op, err api.Errno, want []api.Op, code api.Errno) {
	t.Helper()
	if err != code || !slices.EqualFunc(got, want, equal) {
		t.Errorf("%s: got %v, %d, want %v, %d", what, got, err, want, code)
	}
}

func equal(a, b api.Op) bool {
	return a.Kind == b.Kind && a.At == b.At && slices.Equal(a.Data, b.Data)
}

func expectLoad(t *testing.T, what string, d api.Disk, at int, payload []byte, generation int, code api.Errno) {
	t.Helper()
	got, g, err := superblock.Load(d, at)
	if err != code || g != generation || !slices.Equal(got, payload) {
		t.Errorf("%s: Load: got %v, %d, %d, want %v, %d, %d", what, got, g, err, payload, generation, code)
	}
}

// run executes all operations.
func run(t *testing.T, d api.Disk, ops []api.Op) api.Disk {
	t.Helper()
	after, n, err := disk.Run(d, ops)
	if err != api.OK {
		t.Fatalf("operation %d of %v: got %d", n, ops, err)
	}
	return after
}

// wrongDisks are disks that disk.Check refuses.
func wrongDisks() []api.Disk {
	good := holding(20, 0, valid(1, nil), zeros(8))
	return []api.Disk{
		{Stable: slices.Concat(good.Stable, filled(api.MaxSectors))},
		{Stable: good.Stable, Cache: []api.Cached{{At: 20}}},
		{Stable: good.Stable, Cache: []api.Cached{{At: -1}}},
	}
}

// damaged are the sectors of copies that are not valid, with the generation 6 or 0 in at least one sector.
func damaged() [][]api.Sector {
	l := [][]api.Sector{zeros(8), valid(0, nil), valid(0, text(1, 4)), valid(0, text(1, 31))}
	for i := range 8 {
		for _, g := range []int{0, 1, 5, 7, 6 + 1<<8, 6 + 1<<16, 6 + 1<<24, math.MaxUint32} {
			one := valid(6, text(2, 9))
			one[i] = valid(g, text(2, 9))[i]
			l = append(l, one)
			other := valid(g, text(2, 9))
			other[i] = one[(i+1)%8]
			l = append(l, other)
		}
	}
	for length := 32; length < 256; length++ {
		data := dataOf(nil)
		data[0] = byte(length)
		l = append(l, sectorsOf(6, data))
		l = append(l, sectorsOf(6, append([]byte{byte(length)}, text(length, 31)...)))
	}
	for length := range 31 {
		for i := 1 + length; i < 32; i++ {
			data := dataOf(text(3, length))
			data[i] = 1 << (i % 8)
			l = append(l, sectorsOf(6, data))
		}
	}
	return l
}

func TestP121Capacity(t *testing.T) {
	if got := superblock.Capacity(); got != 31 {
		t.Errorf("Capacity: got %d", got)
	}
}

func TestP121Format(t *testing.T) {
	for _, at := range []int{0, 1, 7, 8, 100, 4079, 4080} {
		for length := range 32 {
			payload := text(length, length)
			got, err := superblock.Format(at, payload)
			want := []api.Op{write(at, zeros(16)), sync(), write(at, valid(1, payload)), sync()}
			expectOps(t, "Format", got, err, want, api.OK)
		}
	}
	for _, at := range []int{-1, -16, math.MinInt, 4081, 4096, math.MaxInt, math.MaxInt - 15} {
		// The place is checked before the payload.
		for _, length := range []int{0, 31, 32} {
			got, err := superblock.Format(at, text(1, length))
			expectOps(t, "Format at a wrong place", got, err, nil, api.ErrRange)
		}
	}
	for _, length := range []int{32, 33, 255, 256, 257, 70000} {
		for _, at := range []int{0, 4080} {
			got, err := superblock.Format(at, text(1, length))
			expectOps(t, "Format with a long payload", got, err, nil, api.ErrLong)
		}
	}
}

func TestP121Example1(t *testing.T) {
	ops, err := superblock.Format(0, []byte{7, 8})
	if err != api.OK {
		t.Fatalf("Format: got %d", err)
	}
	d := run(t, api.Disk{Stable: filled(17)}, ops)
	want := slices.Concat([]api.Sector{{1, 0, 0, 0, 2, 7, 8, 0}}, slices.Repeat([]api.Sector{{1}}, 7), zeros(8), filled(17)[16:])
	if !slices.Equal(d.Stable, want) || len(d.Cache) > 0 {
		t.Errorf("Format writes %v", d)
	}
	expectLoad(t, "the example", d, 0, []byte{7, 8}, 1, api.OK)
}

func TestP121Load(t *testing.T) {
	generations := []int{1, 2, 3, 255, 256, 257, 1 << 16, 1 << 24, 1<<31 - 1, 1 << 31, math.MaxUint32 - 1, math.MaxUint32}
	for i, a := range generations {
		for k, b := range generations {
			p, q := text(i, (i*5+k)%32), text(k+50, (k*7+i)%32)
			for _, at := range []int{0, 3} {
				d := holding(at+16, at, valid(a, p), valid(b, q))
				if a >= b {
					expectLoad(t, "two copies", d, at, p, a, api.OK)
				} else {
					expectLoad(t, "two copies", d, at, q, b, api.OK)
				}
			}
		}
	}
	for length := range 32 {
		// A payload may end with zeros.
		for _, p := range [][]byte{text(9, length), make([]byte, length), slices.Repeat([]byte{255}, length)} {
			expectLoad(t, "one copy", holding(16, 0, valid(5, p), zeros(8)), 0, p, 5, api.OK)
			expectLoad(t, "the other copy", holding(16, 0, zeros(8), valid(5, p)), 0, p, 5, api.OK)
		}
	}
	d := api.Disk{Stable: zeros(api.MaxSectors)}
	copy(d.Stable[4088:], valid(4, text(1, 31)))
	expectLoad(t, "the last sectors", d, 4080, text(1, 31), 4, api.OK)
}

func TestP121LoadOfDamaged(t *testing.T) {
	p := text(8, 20)
	for _, bad := range damaged() {
		for _, g := range []int{1, 5, 6, 7, 9} {
			expectLoad(t, "a damaged copy 1", holding(18, 1, valid(g, p), bad), 1, p, g, api.OK)
			expectLoad(t, "a damaged copy 0", holding(18, 1, bad, valid(g, p)), 1, p, g, api.OK)
		}
		expectLoad(t, "two damaged copies", holding(18, 1, bad, bad), 1, nil, 0, api.ErrChecksum)
		expectLoad(t, "a damaged copy beside zeros", holding(18, 1, bad, zeros(8)), 1, nil, 0, api.ErrChecksum)
	}
	// The sectors of a copy are its own only.
	torn := slices.Concat(valid(2, p)[4:], valid(2, p)[:4])
	expectLoad(t, "shifted copies", holding(24, 4, torn, torn), 8, p, 2, api.OK)
	expectLoad(t, "exchanged sectors", holding(24, 4, torn, torn), 4, nil, 0, api.ErrChecksum)
	expectLoad(t, "exchanged sectors", holding(24, 4, torn, valid(1, nil)), 4, nil, 1, api.OK)
}

// The newest contents count, be they stable or not.
func TestP121LoadOfCached(t *testing.T) {
	p, q, r := text(1, 12), text(40, 31), text(80, 3)
	d := holding(20, 2, valid(3, p), valid(4, q))
	for i, s := range valid(5, r) {
		expectLoad(t, "a copy that is cached in part", d, 2, q, 4, api.OK)
		d.Cache = append(d.Cache, api.Cached{At: 2 + i, Data: api.Sector{9}}, api.Cached{At: 2 + i, Data: s})
	}
	expectLoad(t, "a cached copy", d, 2, r, 5, api.OK)
	d.Cache = append(d.Cache, api.Cached{At: 9, Data: valid(6, r)[7]})
	expectLoad(t, "a copy that is cached in part", d, 2, q, 4, api.OK)
	d.Cache = append(d.Cache, api.Cached{At: 10, Data: api.Sector{}})
	expectLoad(t, "two damaged copies", d, 2, nil, 0, api.ErrChecksum)
}

func TestP121LoadErrors(t *testing.T) {
	for _, d := range wrongDisks() {
		for _, at := range []int{0, -1, 4, 99} {
			expectLoad(t, "a wrong disk", d, at, nil, 0, api.ErrRange)
		}
	}
	for _, size := range []int{16, 17, 40} {
		d := api.Disk{Stable: slices.Repeat(valid(1, nil), 6)[:size]}
		expectLoad(t, "the last place", d, (size-16)/8*8, nil, 1, api.OK)
		for _, at := range []int{-1, -8, -16, math.MinInt, size - 15, size - 8, size, size + 1, math.MaxInt, math.MaxInt - 15, math.MaxInt - 16} {
			expectLoad(t, "a wrong place", d, at, nil, 0, api.ErrRange)
		}
	}
	for _, size := range []int{0, 1, 8, 15} {
		for _, at := range []int{0, 1, -1, size - 16} {
			expectLoad(t, "a small disk", api.Disk{Stable: valid(1, nil)[:min(8, size)]}, at, nil, 0, api.ErrRange)
		}
	}
	expectLoad(t, "zeros", api.Disk{Stable: zeros(16)}, 0, nil, 0, api.ErrChecksum)
	expectLoad(t, "no superblock", api.Disk{Stable: filled(40)}, 11, nil, 0, api.ErrChecksum)
}

func TestP122Store(t *testing.T) {
	for i, x := range []struct{ first, second, index, generation int }{
		{1, 0, 1, 2}, {0, 1, 0, 2}, {1, 2, 0, 3}, {3, 2, 1, 4}, {5, 5, 1, 6}, {9, 4, 1, 10},
		{255, 0, 1, 256}, {65535, 7, 1, 65536}, {8, 1<<24 - 1, 0, 1 << 24}, {1<<31 - 1, 3, 1, 1 << 31},
		{math.MaxUint32 - 1, 0, 1, math.MaxUint32}, {3, math.MaxUint32 - 1, 0, math.MaxUint32},
	} {
		for length := range 32 {
			at := length % 5
			d := holding(at+17, at, valid(x.first, text(1, 9)), valid(x.second, text(2, 10)))
			payload := text(i, length)
			got, err := superblock.Store(d, at, payload)
			want := []api.Op{write(at+8*x.index, valid(x.generation, payload)), sync()}
			expectOps(t, "Store", got, err, want, api.OK)
		}
	}
	d := api.Disk{Stable: zeros(api.MaxSectors)}
	copy(d.Stable[4080:], valid(4, nil))
	got, err := superblock.Store(d, 4080, text(1, 31))
	expectOps(t, "Store at the last place", got, err, []api.Op{write(4088, valid(5, text(1, 31))), sync()}, api.OK)
}

// generationAt is the generation of a sector.
func generationAt(s api.Sector) int {
	return int(s[0]) + int(s[1])<<8 + int(s[2])<<16 + int(s[3])<<24
}

// greatest is the greatest generation of sectors.
func greatest(l []api.Sector) int {
	g := 0
	for _, s := range l {
		g = max(g, generationAt(s))
	}
	return g
}

// A copy that is not valid is replaced, with a generation that is greater than all of its ones.
func TestP122StoreOverDamaged(t *testing.T) {
	payload := text(70, 14)
	for _, bad := range damaged() {
		for _, g := range []int{1, 6, 7, 1000} {
			next := max(g, greatest(bad)) + 1
			for index := range 2 {
				d := holding(16, 0, valid(g, text(1, 5)), bad)
				if index == 0 {
					d = holding(16, 0, bad, valid(g, text(1, 5)))
				}
				got, err := superblock.Store(d, 0, payload)
				if next > math.MaxUint32 {
					expectOps(t, "Store behind the last generation", got, err, nil, api.ErrFull)
					continue
				}
				expectOps(t, "Store", got, err, []api.Op{write(8*index, valid(next, payload)), sync()}, api.OK)
			}
		}
	}
	// Sectors beside the superblock, and older contents, do not count.
	d := holding(18, 1, valid(4, nil), valid(3, nil))
	d.Stable[0], d.Stable[17] = valid(900, nil)[0], valid(901, nil)[0]
	d.Stable[9] = api.Sector{0, 0, 3}
	d.Cache = []api.Cached{{At: 9, Data: api.Sector{0, 9}}, {At: 9, Data: valid(3, nil)[0]}}
	got, err := superblock.Store(d, 1, payload)
	expectOps(t, "Store", got, err, []api.Op{write(9, valid(5, payload)), sync()}, api.OK)
	d.Cache = append(d.Cache, api.Cached{At: 16, Data: valid(77, nil)[7]})
	got, err = superblock.Store(d, 1, payload)
	expectOps(t, "Store over a cached sector", got, err, []api.Op{write(9, valid(78, payload)), sync()}, api.OK)
}

func TestP122Example2(t *testing.T) {
	ops, _ := superblock.Format(0, []byte{7, 8})
	d := run(t, api.Disk{Stable: filled(16)}, ops)
	stored, err := superblock.Store(d, 0, []byte{9})
	want := append([]api.Sector{{2, 0, 0, 0, 1, 9, 0, 0}}, slices.Repeat([]api.Sector{{2}}, 7)...)
	expectOps(t, "Store", stored, err, []api.Op{write(8, want), sync()}, api.OK)
	expectLoad(t, "a complete Store", run(t, d, stored), 0, []byte{9}, 2, api.OK)
	crashed, _, _ := disk.Interrupt(d, stored, 1, []int{1, 1, 1, 1, 1, 1, 1, 0})
	if !slices.Equal(crashed.Stable[8:], append(want[:7:7], api.Sector{})) {
		t.Fatalf("the crash keeps %v", crashed.Stable[8:])
	}
	expectLoad(t, "an interrupted Store", crashed, 0, []byte{7, 8}, 1, api.OK)
	again, err := superblock.Store(crashed, 0, []byte{9, 9})
	expectOps(t, "the next Store", again, err, []api.Op{write(8, valid(3, []byte{9, 9})), sync()}, api.OK)
}

func TestP122StoreErrors(t *testing.T) {
	for _, d := range wrongDisks() {
		for _, length := range []int{0, 31, 32} {
			got, err := superblock.Store(d, 0, text(1, length))
			expectOps(t, "Store on a wrong disk", got, err, nil, api.ErrRange)
		}
	}
	full := holding(17, 1, valid(math.MaxUint32, nil), valid(3, nil))
	empty := api.Disk{Stable: filled(17)}
	none := holding(17, 1, zeros(8), sectorsOf(math.MaxUint32, slices.Repeat([]byte{32}, 32)))
	half := holding(17, 1, valid(2, nil), sectorsOf(math.MaxUint32, slices.Repeat([]byte{32}, 32)))
	good := holding(17, 1, valid(2, nil), zeros(8))
	for _, x := range []struct {
		d          api.Disk
		at, length int
		want       api.Errno
	}{
		{full, -1, 0, api.ErrRange}, {full, 2, 0, api.ErrRange}, {full, math.MaxInt, 32, api.ErrRange}, {full, math.MinInt, 32, api.ErrRange},
		{empty, 2, 32, api.ErrRange}, {empty, 1, 0, api.ErrChecksum}, {empty, 1, 32, api.ErrChecksum}, {empty, 0, 31, api.ErrChecksum},
		{none, 1, 0, api.ErrChecksum}, {none, 1, 32, api.ErrChecksum},
		{good, 1, 32, api.ErrLong}, {good, 1, 256, api.ErrLong}, {good, 1, 257, api.ErrLong}, {full, 1, 32, api.ErrLong}, {half, 1, 40, api.ErrLong},
		{full, 1, 0, api.ErrFull}, {full, 1, 31, api.ErrFull}, {half, 1, 31, api.ErrFull},
	} {
		got, err := superblock.Store(x.d, x.at, text(1, x.length))
		expectOps(t, "Store with an error", got, err, nil, x.want)
	}
}

func TestP123Complete(t *testing.T) {
	for seed := range 20 {
		next := random(uint32(seed))
		size := 16 + next(20)
		at := next(size - 15)
		d := api.Disk{Stable: filled(size), Cache: []api.Cached{{At: next(size), Data: api.Sector{9}}, {At: next(size), Data: api.Sector{8}}}}
		before, _ := disk.Read(d, api.Extent{Count: size})
		payload := text(seed, next(32))
		ops, err := superblock.Format(at, payload)
		if err != api.OK {
			t.Fatalf("Format: got %d", err)
		}
		d = run(t, d, ops)
		expectLoad(t, "behind Format", d, at, payload, 1, api.OK)
		for generation := 2; generation < 9; generation++ {
			payload = text(next(256), next(32))
			if ops, err = superblock.Store(d, at, payload); err != api.OK {
				t.Fatalf("Store: got %d", err)
			}
			d = run(t, d, ops)
			expectLoad(t, "behind Store", d, at, payload, generation, api.OK)
			if len(d.Cache) > 0 {
				t.Errorf("%v is not stable behind Store", disk.Unsynced(d))
			}
		}
		after, _ := disk.Read(d, api.Extent{Count: size})
		if !slices.Equal(after[:at], before[:at]) || !slices.Equal(after[at+16:], before[at+16:]) {
			t.Errorf("other sectors than %d+16 are written: %v", at, after)
		}
	}
}

// bits are decisions for 8 sectors.
func bits(n int) []int {
	var l []int
	for i := range 8 {
		l = append(l, n>>i&1)
	}
	return l
}

// stored is a disk with a superblock at sector 2 in which payloads were stored one after another.
func stored(t *testing.T, payloads ...[]byte) api.Disk {
	t.Helper()
	ops, _ := superblock.Format(2, payloads[0])
	d := run(t, api.Disk{Stable: filled(20)}, ops)
	for _, p := range payloads[1:] {
		ops, _ = superblock.Store(d, 2, p)
		d = run(t, d, ops)
	}
	return d
}

// expectOneOf reports a superblock that has neither of the payloads.
func expectOneOf(t *testing.T, what string, d api.Disk, payloads ...[]byte) []byte {
	t.Helper()
	got, _, err := superblock.Load(d, 2)
	if err != api.OK || !slices.ContainsFunc(payloads, func(p []byte) bool { return slices.Equal(p, got) }) {
		t.Errorf("%s: Load: got %v, %d, want one of %v", what, got, err, payloads)
	}
	return got
}

func TestP123Interrupted(t *testing.T) {
	old, long, short := text(5, 12), text(60, 31), text(5, 11)
	// Payloads that differ little, or not at all, from the one before do not help a torn copy.
	for _, p := range [][]byte{long, short, old, nil} {
		for _, d := range []api.Disk{stored(t, old), stored(t, p, old), stored(t, long, p, old), stored(t, nil, long, p, old)} {
			ops, err := superblock.Store(d, 2, p)
			if err != api.OK || len(ops) != 2 {
				t.Fatalf("Store: got %v, %d", ops, err)
			}
			_, before, _ := superblock.Load(d, 2)
			for n := range 256 {
				crashed, _, _ := disk.Interrupt(d, ops, 1, bits(n))
				expectOneOf(t, "an interrupted Store", crashed, old, p)
				_, after, _ := superblock.Load(crashed, 2)
				if n == 255 && after != before+1 || n != 255 && after != before {
					t.Errorf("an interrupted Store: the generation is %d, was %d", after, before)
				}
			}
			none, _, _ := disk.Interrupt(d, ops, 0, bits(255))
			expectLoad(t, "a Store interrupted at its beginning", none, 2, old, before, api.OK)
			all, _, _ := disk.Interrupt(d, ops, 2, bits(0))
			expectLoad(t, "a Store interrupted at its end", all, 2, p, before+1, api.OK)
		}
	}
}

func TestP123InterruptedAgain(t *testing.T) {
	for seed := range 200 {
		next := random(uint32(seed))
		current := text(seed, next(32))
		d := stored(t, current)
		for range 12 {
			p := text(next(4), next(32))
			ops, err := superblock.Store(d, 2, p)
			if err != api.OK {
				t.Fatalf("Store: got %d", err)
			}
			// A generation that is on the disk is not used again; one that was lost as a whole may be.
			if g, last := generationAt(ops[0].Data[0]), greatest(d.Stable[2:18]); g != last+1 {
				t.Fatalf("Store uses the generation %d behind %d", g, last)
			}
			d, _, _ = disk.Interrupt(d, ops, next(3), bits(next(256)))
			current = expectOneOf(t, "an interrupted Store", d, current, p)
			if !slices.Equal(d.Stable[:2], filled(20)[:2]) || !slices.Equal(d.Stable[18:], filled(20)[18:]) {
				t.Fatalf("other sectors are written: %v", d)
			}
		}
	}
}

func TestP123FormattedInPart(t *testing.T) {
	before := [][]byte{text(1, 20), text(2, 31), text(3, 0), text(4, 7)}
	p := text(90, 25)
	ops, err := superblock.Format(2, p)
	if err != api.OK {
		t.Fatalf("Format: got %d", err)
	}
	for stores := range len(before) + 1 {
		// The sectors of a disk that was never formatted are zeros here.
		d := api.Disk{Stable: zeros(20)}
		if stores > 0 {
			d = stored(t, before[:stores]...)
		}
		for after := range len(ops) + 1 {
			for n := range 256 {
				choices := append(bits(n), bits(n*7+n/3)...)
				crashed, _, err := disk.Interrupt(d, ops, after, choices)
				if err != api.OK {
					t.Fatalf("Interrupt: got %d", err)
				}
				switch _, _, err := superblock.Load(crashed, 2); {
				case after == 4:
					expectLoad(t, "behind Format", crashed, 2, p, 1, api.OK)
				case err == api.ErrChecksum:
					// None is allowed until the last sync, but for a superblock that was not touched.
					if after == 0 && stores > 0 {
						t.Errorf("Format that was not begun destroys a superblock")
					}
				case after > 1:
					// Nothing older appears again.
					expectLoad(t, "behind the zeros", crashed, 2, p, 1, api.OK)
				default:
					expectOneOf(t, "formatted in part", crashed, before[:stores]...)
				}
			}
		}
	}
}

// results are what the functions make of their arguments.
func results(d api.Disk, payload []byte) ([]api.Op, []byte) {
	formatted, _ := superblock.Format(3, payload)
	replaced, _ := superblock.Store(d, 0, payload)
	loaded, _, _ := superblock.Load(d, 0)
	return append(formatted, replaced...), loaded
}

// argument is a disk with spare capacity, whose newest copy is cached.
func argument() api.Disk {
	d := holding(18, 0, valid(2, text(1, 9)), zeros(8))
	for i, s := range valid(3, text(6, 11)) {
		d.Cache = append(d.Cache, api.Cached{At: 8 + i, Data: s})
	}
	d.Cache = append(d.Cache, api.Cached{At: 99})
	return api.Disk{Stable: d.Stable[:16], Cache: d.Cache[:8]}
}

func TestValues(t *testing.T) {
	d, payload := argument(), text(3, 14)
	ops, loaded := results(d, payload[:10])
	wanted, bytes := results(argument(), text(3, 10))
	fresh := argument()
	if !slices.Equal(d.Stable[:18], fresh.Stable[:18]) || !slices.Equal(d.Cache[:9], fresh.Cache[:9]) || !slices.Equal(payload, text(3, 14)) {
		t.Errorf("an argument is modified: %v, %v", d, payload)
	}
	clear(d.Stable)
	clear(d.Cache)
	clear(payload)
	if !slices.Equal(loaded, bytes) || len(loaded) != 11 {
		t.Errorf("a payload after a change of the arguments: got %v, want %v", loaded, bytes)
	}
	for i := range ops {
		if !equal(ops[i], wanted[i]) {
			t.Errorf("an operation after a change of the arguments or of others: got %v, want %v", ops[i], wanted[i])
		}
		clear(ops[i].Data[:cap(ops[i].Data)])
	}
	clear(loaded[:cap(loaded)])
	again, repeated := results(argument(), text(3, 10))
	if !slices.EqualFunc(again, wanted, equal) || !slices.Equal(repeated, bytes) {
		t.Errorf("results after a change of earlier ones: got %v, %v", again, repeated)
	}
}
