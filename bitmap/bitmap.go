// Package bitmap implements layer 2: bitmaps of sectors.
package bitmap

import (
	"iter"
	"math/bits"

	"standby/api"
)

const wordBits = 64

// merge says how a word of one bitmap and the same word of another one become a word of the result. It must make 0 of two zeros, since the bits beyond the size stay 0.
type merge struct {
	word func(x, y uint64) uint64
}

// New returns the bitmap of a size with the empty set.
func New(size int) (api.Bitmap, api.Errno) {
	if size < 0 || size > api.MaxSectors {
		return api.Bitmap{}, api.ErrRange
	}
	return api.Bitmap{Size: size, Words: make([]uint64, wordsFor(size))}, api.OK
}

// Check returns OK if a bitmap is well-formed.
func Check(b api.Bitmap) api.Errno {
	if b.Size < 0 || b.Size > api.MaxSectors || len(b.Words) != wordsFor(b.Size) {
		return api.ErrForm
	}
	if used := b.Size % wordBits; used > 0 && b.Words[len(b.Words)-1]>>used != 0 {
		return api.ErrForm
	}
	return api.OK
}

// Set adds the sectors of an extent to the set.
func Set(b api.Bitmap, e api.Extent) (api.Bitmap, api.Errno) {
	return change(b, e, union())
}

// Clear removes the sectors of an extent from the set.
func Clear(b api.Bitmap, e api.Extent) (api.Bitmap, api.Errno) {
	return change(b, e, difference())
}

// Get reports whether a sector belongs to the set.
func Get(b api.Bitmap, sector int) bool {
	if Check(b) != api.OK || sector < 0 || sector >= b.Size {
		return false
	}
	return b.Words[sector/wordBits]>>(sector%wordBits)&1 == 1
}

// Count returns the number of elements of the set.
func Count(b api.Bitmap) int {
	if Check(b) != api.OK {
		return 0
	}
	n := 0
	for _, w := range b.Words {
		n += bits.OnesCount64(w)
	}
	return n
}

// Next returns the least element that is not less than from, or -1 if there is none.
func Next(b api.Bitmap, from int) int {
	for sector := range elements(b, max(from, 0)) {
		return sector
	}
	return -1
}

// Or returns the union of two sets.
func Or(a, b api.Bitmap) (api.Bitmap, api.Errno) {
	return combine(a, b, union())
}

// And returns the intersection of two sets.
func And(a, b api.Bitmap) (api.Bitmap, api.Errno) {
	return combine(a, b, merge{func(x, y uint64) uint64 { return x & y }})
}

// AndNot returns the elements of a that b does not contain.
func AndNot(a, b api.Bitmap) (api.Bitmap, api.Errno) {
	return combine(a, b, difference())
}

// Extents returns the set as the canonical list of extents.
func Extents(b api.Bitmap) []api.Extent {
	var l []api.Extent
	for sector := range elements(b, 0) {
		last := len(l) - 1
		if last >= 0 && l[last].Start+l[last].Count == sector {
			l[last].Count++
		} else {
			l = append(l, api.Extent{Start: sector, Count: 1})
		}
	}
	return l
}

// FromExtents returns the bitmap of a size whose set contains the sectors of all extents of a list.
func FromExtents(size int, l []api.Extent) (api.Bitmap, api.Errno) {
	b, err := New(size)
	if err != api.OK {
		return api.Bitmap{}, err
	}
	for _, e := range l {
		if !fits(e, size) {
			return api.Bitmap{}, api.ErrRange
		}
		fill(b.Words, e)
	}
	return b, api.OK
}

func union() merge {
	return merge{func(x, y uint64) uint64 { return x | y }}
}

func difference() merge {
	return merge{func(x, y uint64) uint64 { return x &^ y }}
}

// wordsFor returns the number of words of a bitmap of a size from 0 to MaxSectors.
func wordsFor(size int) int {
	return (size + wordBits - 1) / wordBits
}

// fits reports whether an extent lies within a size from 0 to MaxSectors.
func fits(e api.Extent, size int) bool {
	// Counts are compared, since the sum of Start and Count might overflow.
	return e.Start >= 0 && e.Count >= 0 && e.Count <= size-e.Start
}

// fill sets the bits of an extent that fits.
func fill(words []uint64, e api.Extent) {
	for at, end := e.Start, e.Start+e.Count; at < end; {
		n := min(end-at, wordBits-at%wordBits)
		words[at/wordBits] |= ^uint64(0) >> (wordBits - n) << (at % wordBits)
		at += n
	}
}

// change combines a bitmap with the sectors of an extent.
func change(b api.Bitmap, e api.Extent, m merge) (api.Bitmap, api.Errno) {
	if err := Check(b); err != api.OK {
		return api.Bitmap{}, err
	}
	mask, err := FromExtents(b.Size, []api.Extent{e})
	if err != api.OK {
		return api.Bitmap{}, err
	}
	return combine(b, mask, m)
}

// combine returns the bitmap of the merged words of two bitmaps of one size.
func combine(a, b api.Bitmap, m merge) (api.Bitmap, api.Errno) {
	for _, x := range [2]api.Bitmap{a, b} {
		if err := Check(x); err != api.OK {
			return api.Bitmap{}, err
		}
	}
	if a.Size != b.Size {
		return api.Bitmap{}, api.ErrMismatch
	}
	words := make([]uint64, len(a.Words))
	for i := range words {
		words[i] = m.word(a.Words[i], b.Words[i])
	}
	return api.Bitmap{Size: a.Size, Words: words}, api.OK
}

// elements yields the elements of the set from a number that is not negative on, in ascending order; none for a bitmap that is not well-formed.
func elements(b api.Bitmap, from int) iter.Seq[int] {
	return func(yield func(int) bool) {
		if Check(b) != api.OK {
			return
		}
		for i := from / wordBits; i < len(b.Words); i++ {
			rest := b.Words[i]
			if i == from/wordBits {
				rest = rest >> (from % wordBits) << (from % wordBits)
			}
			for ; rest != 0; rest &= rest - 1 {
				if !yield(i*wordBits + bits.TrailingZeros64(rest)) {
					return
				}
			}
		}
	}
}
