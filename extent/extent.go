// Package extent implements layer 1: sets of sectors as canonical lists of extents.
package extent

import (
	"cmp"
	"iter"
	"slices"

	"standby/api"
)

// edge is an end of an extent of one of two lists: from the sector at on, step more extents of that list contain the sectors.
type edge struct {
	at, list, step int
}

// Check returns OK if a list is canonical, with all its sectors below size.
func Check(l []api.Extent, size int) api.Errno {
	if size < 0 || size > api.MaxSectors {
		return api.ErrRange
	}
	for i, e := range l {
		if e.Count <= 0 {
			return api.ErrArg
		}
		if !fits(e, size) {
			return api.ErrRange
		}
		// The extent before has passed the checks above, so that this sum is small.
		if i > 0 && e.Start <= l[i-1].Start+l[i-1].Count {
			return api.ErrForm
		}
	}
	return api.OK
}

// Normalize returns the canonical list of a set.
func Normalize(l []api.Extent) ([]api.Extent, api.Errno) {
	for _, e := range l {
		if e.Count < 0 {
			return nil, api.ErrArg
		}
		if e.Count > 0 && !fits(e, api.MaxSectors) {
			return nil, api.ErrRange
		}
	}
	return Union(l, nil), api.OK
}

// Union returns the canonical list of the sectors in a or b.
func Union(a, b []api.Extent) []api.Extent {
	return slices.Collect(sweep(a, b, func(inA, inB bool) bool { return inA || inB }))
}

// Intersect returns the canonical list of the sectors in a and b.
func Intersect(a, b []api.Extent) []api.Extent {
	return slices.Collect(sweep(a, b, func(inA, inB bool) bool { return inA && inB }))
}

// Subtract returns the canonical list of the sectors in a and not in b.
func Subtract(a, b []api.Extent) []api.Extent {
	return slices.Collect(sweep(a, b, func(inA, inB bool) bool { return inA && !inB }))
}

// Complement returns the canonical list of the sectors below size that are not in l.
func Complement(l []api.Extent, size int) []api.Extent {
	return Subtract([]api.Extent{{Start: 0, Count: size}}, l)
}

// Contains reports whether a sector is in the set of a list.
func Contains(l []api.Extent, sector int) bool {
	return slices.ContainsFunc(l, func(e api.Extent) bool {
		first, end := clip(e)
		return first <= sector && sector < end
	})
}

// Count returns the number of sectors in the set of a list.
func Count(l []api.Extent) int {
	n := 0
	for e := range canonical(l) {
		n += e.Count
	}
	return n
}

// Split returns the canonical list of a set in pieces of most sectors, where the last piece of an extent may be shorter.
func Split(l []api.Extent, most int) ([]api.Extent, api.Errno) {
	if most <= 0 {
		return nil, api.ErrArg
	}
	var pieces []api.Extent
	for e := range canonical(l) {
		for e.Count > 0 {
			n := min(e.Count, most)
			pieces = append(pieces, api.Extent{Start: e.Start, Count: n})
			e.Start += n
			e.Count -= n
		}
	}
	return pieces, api.OK
}

// fits reports whether all sectors of an extent with a positive Count lie from 0 to size - 1.
func fits(e api.Extent, size int) bool {
	// Counts are compared, since the sum of Start and Count might overflow.
	return e.Start >= 0 && e.Count <= size-e.Start
}

// clip returns the first sector that an extent contributes to a set, and the one behind the last; both are equal if there is none.
func clip(e api.Extent) (first, end int) {
	switch {
	case e.Count <= 0 || e.Start >= api.MaxSectors:
		return 0, 0
	case e.Start < 0:
		// A negative and a positive number: this sum cannot overflow.
		return 0, max(0, min(e.Start+e.Count, api.MaxSectors))
	default:
		return e.Start, e.Start + min(e.Count, api.MaxSectors-e.Start)
	}
}

// edges returns the ends of the extents of both lists in ascending order.
func edges(a, b []api.Extent) []edge {
	var found []edge
	for list, l := range [2][]api.Extent{a, b} {
		for _, e := range l {
			if first, end := clip(e); first < end {
				found = append(found, edge{first, list, 1}, edge{end, list, -1})
			}
		}
	}
	slices.SortFunc(found, func(x, y edge) int { return cmp.Compare(x.at, y.at) })
	return found
}

// canonical yields the extents of the canonical list of a set.
func canonical(l []api.Extent) iter.Seq[api.Extent] {
	return sweep(l, nil, func(inL, _ bool) bool { return inL })
}

// sweep yields the extents of the canonical list of the sectors for which belongs holds, given whether the sets of a and b contain them. It must not hold for sectors in neither set.
func sweep(a, b []api.Extent, belongs func(inA, inB bool) bool) iter.Seq[api.Extent] {
	return func(yield func(api.Extent) bool) {
		var depth [2]int
		inside, start := false, 0
		found := edges(a, b)
		for i, e := range found {
			depth[e.list] += e.step
			// The sector is decided by all its edges together; so adjacent extents become one.
			if i+1 < len(found) && found[i+1].at == e.at {
				continue
			}
			was := inside
			inside = belongs(depth[0] > 0, depth[1] > 0)
			if inside && !was {
				start = e.at
			}
			if was && !inside && !yield(api.Extent{Start: start, Count: e.at - start}) {
				return
			}
		}
	}
}
