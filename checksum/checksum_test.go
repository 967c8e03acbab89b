package checksum_test

import (
	"bytes"
	"encoding/binary"
	"hash/crc32"
	"math"
	"math/big"
	"slices"
	"testing"

	"standby/api"
	"standby/checksum"
)

// registerAfter is the register after bytes, bit by bit by the definition.
func registerAfter(register uint32, b []byte) uint32 {
	for _, x := range b {
		register ^= uint32(x)
		for range 8 {
			if register%2 == 1 {
				register = register/2 ^ 0x82F63B78
			} else {
				register /= 2
			}
		}
	}
	return register
}

// digestOf is the digest of bytes by the definition, with numbers of any size that are reduced after each step.
func digestOf(b []byte) uint64 {
	modulus := new(big.Int).Lsh(big.NewInt(1), 64)
	d := new(big.Int).SetUint64(0xCBF29CE484222325)
	for _, x := range b {
		d.Xor(d, big.NewInt(int64(x)))
		d.Mul(d, big.NewInt(1099511628211))
		d.Mod(d, modulus)
	}
	return d.Xor(d, new(big.Int).Rsh(d, 32)).Uint64()
}

// random returns a source of numbers that are the same in each run.
func random(seed uint32) func(n int) int {
	return func(n int) int {
		seed = seed*1664525 + 1013904223
		return int(seed>>8) % n
	}
}

// samples are byte strings: all of one byte, texts, equal and different bytes, and random ones.
func samples() [][]byte {
	l := [][]byte{nil, {}, []byte("123456789"), []byte("standby"), make([]byte, 65536), bytes.Repeat([]byte{255}, 257)}
	for i := range 256 {
		l = append(l, []byte{byte(i)})
	}
	next := random(3)
	for n := range 70 {
		b := make([]byte, n*n/4)
		for i := range b {
			b[i] = byte(next(256))
		}
		l = append(l, b)
	}
	return l
}

// registers are arguments that need not be sums of anything.
func registers() []uint32 {
	return []uint32{0, 1, 0x80000000, math.MaxUint32, 0x82F63B78, 0x527D5351, 0xE3069283, 0x12345678, 0xDEADBEEF}
}

func TestP41Examples(t *testing.T) {
	up, down := make([]byte, 32), make([]byte, 32)
	for i := range up {
		up[i], down[31-i] = byte(i), byte(i)
	}
	for _, x := range []struct {
		b    []byte
		want uint32
	}{
		{[]byte("123456789"), 0xE3069283},
		{nil, 0},
		{[]byte{}, 0},
		{[]byte{0}, 0x527D5351},
		// The examples of RFC 3720.
		{make([]byte, 32), 0x8A9136AA},
		{bytes.Repeat([]byte{255}, 32), 0x62A8AB43},
		{up, 0x46DD794E},
		{down, 0x113FDB5C},
	} {
		if got := checksum.Sum(x.b); got != x.want {
			t.Errorf("Sum of %v: got %#x, want %#x", x.b, got, x.want)
		}
	}
	if got := checksum.Combine(0x527D5351, 0, 0); got != 0x527D5351 {
		t.Errorf("Combine with no bytes: got %#x", got)
	}
}

func TestP41Sum(t *testing.T) {
	library := crc32.MakeTable(crc32.Castagnoli)
	for _, b := range samples() {
		got, want := checksum.Sum(b), ^registerAfter(math.MaxUint32, b)
		if got != want || got != crc32.Checksum(b, library) {
			t.Errorf("Sum of %d bytes: got %#x, want %#x", len(b), got, want)
		}
	}
}

func TestP41Update(t *testing.T) {
	for _, b := range samples() {
		for _, sum := range registers() {
			if got, want := checksum.Update(sum, b), ^registerAfter(^sum, b); got != want {
				t.Errorf("Update of %#x with %d bytes: got %#x, want %#x", sum, len(b), got, want)
			}
		}
	}
}

func TestP41Combine(t *testing.T) {
	for _, n := range []int{0, 1, 2, 3, 4, 5, 8, 255, 256, 4096, 65535, 65536} {
		zeros := make([]byte, n)
		for _, a := range registers() {
			for _, b := range registers() {
				if got, want := checksum.Combine(a, b, n), registerAfter(a, zeros)^b; got != want {
					t.Errorf("Combine(%#x, %#x, %d): got %#x, want %#x", a, b, n, got, want)
				}
			}
		}
	}
	for _, n := range []int{-1, -65536, math.MinInt, 65537, 1 << 40, math.MaxInt} {
		for _, a := range registers() {
			if got := checksum.Combine(a, ^a, n); got != 0 {
				t.Errorf("Combine(%#x, %#x, %d): got %#x, want 0", a, ^a, n, got)
			}
		}
	}
}

func TestP42Digest(t *testing.T) {
	for text, want := range map[string]uint64{"": 0xCBF29CE44FD0BFC1, "a": 0xAF63DC4C296230C0} {
		if got := checksum.Digest([]byte(text)); got != want {
			t.Errorf("Digest of %q: got %#x, want %#x", text, got, want)
		}
	}
	if got := checksum.Digest(nil); got != 0xCBF29CE44FD0BFC1 {
		t.Errorf("Digest of no bytes: got %#x", got)
	}
	for _, b := range samples() {
		if got, want := checksum.Digest(b), digestOf(b); got != want {
			t.Errorf("Digest of %d bytes: got %#x, want %#x", len(b), got, want)
		}
	}
}

func TestP42Sectors(t *testing.T) {
	next := random(8)
	for _, n := range []int{0, 1, 2, 3, 64, 4096} {
		var l []api.Sector
		var b []byte
		for range n {
			var s api.Sector
			for i := range s {
				s[i] = byte(next(256))
			}
			l = append(l, s)
			b = append(b, s[:]...)
		}
		if got, want := checksum.Sectors(l), digestOf(b); got != want {
			t.Errorf("Sectors of %d sectors: got %#x, want %#x", n, got, want)
		}
	}
	if got, want := checksum.Sectors([]api.Sector{{1, 2, 3, 4, 5, 6, 7, 8}, {}}), digestOf([]byte{1, 2, 3, 4, 5, 6, 7, 8, 0, 0, 0, 0, 0, 0, 0, 0}); got != want {
		t.Errorf("Sectors: got %#x, want %#x", got, want)
	}
}

func TestP42Pair(t *testing.T) {
	numbers := []uint64{0, 1, 255, 256, 1 << 63, math.MaxUint64, 0x0102030405060708, 0xCBF29CE44FD0BFC1}
	for _, a := range numbers {
		for _, b := range numbers {
			bytes := binary.LittleEndian.AppendUint64(binary.LittleEndian.AppendUint64(nil, a), b)
			if got, want := checksum.Pair(a, b), digestOf(bytes); got != want {
				t.Errorf("Pair(%#x, %#x): got %#x, want %#x", a, b, got, want)
			}
		}
	}
	if got, want := checksum.Pair(0x0102030405060708, 9), digestOf([]byte{8, 7, 6, 5, 4, 3, 2, 1, 9, 0, 0, 0, 0, 0, 0, 0}); got != want {
		t.Errorf("Pair: got %#x, want %#x", got, want)
	}
}

func TestP43InARow(t *testing.T) {
	next := random(21)
	l := samples()
	for range 300 {
		a, b := l[next(len(l))], l[next(len(l))]
		whole := checksum.Sum(slices.Concat(a, b))
		if got := checksum.Update(checksum.Sum(a), b); got != whole {
			t.Errorf("Update with %d bytes behind %d: got %#x, want %#x", len(b), len(a), got, whole)
		}
		if got := checksum.Combine(checksum.Sum(a), checksum.Sum(b), len(b)); got != whole {
			t.Errorf("Combine of %d and %d bytes: got %#x, want %#x", len(a), len(b), got, whole)
		}
	}
}

// independent reports whether no exclusive or of some of the numbers is 0.
func independent(numbers []uint32) bool {
	l := slices.Clone(numbers)
	for i := range l {
		if l[i] == 0 {
			return false
		}
		lowest := l[i] & -l[i]
		for k := i + 1; k < len(l); k++ {
			if l[k]&lowest != 0 {
				l[k] ^= l[i]
			}
		}
	}
	return true
}

// TestP43FourBytes relies on the exclusive or of sums: all changes within four bytes change the sum if what the changes of single bits do to it is independent.
func TestP43FourBytes(t *testing.T) {
	next := random(34)
	for _, b := range samples() {
		sum := checksum.Sum(b)
		for range min(len(b), 4) {
			at := next(max(1, len(b)-3))
			window := b[at:min(len(b), at+4)]
			var effects []uint32
			for bit := range 8 * len(window) {
				changed := slices.Clone(b)
				changed[at+bit/8] ^= 1 << (bit % 8)
				effects = append(effects, checksum.Sum(changed)^sum)
			}
			if !independent(effects) {
				t.Errorf("%d bytes: some change of those from %d on does not change the sum", len(b), at)
			}
			changed := slices.Clone(b)
			for i := range window {
				changed[at+i] ^= byte(1 + next(255))
			}
			if checksum.Sum(changed) == sum {
				t.Errorf("%d bytes: a change of those from %d on does not change the sum", len(b), at)
			}
		}
	}
}

func TestP43OneByte(t *testing.T) {
	for _, b := range samples() {
		if len(b) > 600 {
			continue
		}
		for i := 0; i < len(b); i += 1 + len(b)/7 {
			changed := slices.Clone(b)
			seen := map[uint64]bool{}
			for x := range 256 {
				changed[i] = byte(x)
				seen[checksum.Digest(changed)] = true
			}
			if len(seen) != 256 || !seen[checksum.Digest(b)] {
				t.Errorf("%d bytes: the values of byte %d have %d digests, want 256", len(b), i, len(seen))
			}
		}
	}
}

func TestP43ExclusiveOr(t *testing.T) {
	next := random(55)
	for _, n := range []int{0, 1, 2, 7, 64, 1000} {
		for range 20 {
			var strings [3][]byte
			all, sums := make([]byte, n), uint32(0)
			for k := range strings {
				for i := range n {
					strings[k] = append(strings[k], byte(next(256)))
					all[i] ^= strings[k][i]
				}
				sums ^= checksum.Sum(strings[k])
			}
			if got := checksum.Sum(all); got != sums {
				t.Errorf("the exclusive or of %d bytes: got the sum %#x, want %#x", n, got, sums)
			}
		}
	}
}

func TestValues(t *testing.T) {
	whole := []byte{1, 2, 3, 4, 5, 6, 7, 8}
	b := slices.Clone(whole)
	checksum.Sum(b[:4])
	checksum.Update(9, b[:4])
	checksum.Digest(b[:4])
	if !bytes.Equal(b, whole) {
		t.Errorf("an argument or its spare capacity is changed to %v", b)
	}
	l := []api.Sector{{1}, {2}, {3}}
	checksum.Sectors(l[:2])
	if !slices.Equal(l, []api.Sector{{1}, {2}, {3}}) {
		t.Errorf("an argument or its spare capacity is changed to %v", l)
	}
}
