package hashtree_test

import (
	"math"
	"slices"
	"testing"

	"standby/api"
	"standby/checksum"
	"standby/extent"
	"standby/hashtree"
)

// sec is a sector all of whose bytes depend on a number.
func sec(n int) api.Sector {
	return api.Sector{byte(n), byte(n >> 8), 3, 4, 5, 6, 7, byte(255 - n)}
}

// secs are sectors of numbers from first on.
func secs(first, count int) []api.Sector {
	var l []api.Sector
	for i := range count {
		l = append(l, sec(first+i))
	}
	return l
}

// Two pairs of numbers, and two sectors, that have the same digest.
var (
	samePairs   = [2][2]uint64{{0x7a52520611782107, 0x203bad0e0255471a}, {0x846d2f0936956401, 0x3f336307182b452a}}
	sameSectors = [2]api.Sector{{0xe4, 0xe5, 0x64, 0x5c, 0x9c, 0x75, 0x5c, 0x63}, {0x1b, 0x5d, 0x1f, 0x10, 0x3a, 0x59, 0x02, 0x53}}
)

// random returns numbers from 0 to n - 1 that look random.
func random(seed uint32) func(n int) int {
	return func(n int) int {
		seed = seed*1664525 + 1013904223
		return int(seed>>8) % n
	}
}

// randomSectors are some of few different contents.
func randomSectors(next func(int) int, count int) []api.Sector {
	var l []api.Sector
	for range count {
		l = append(l, sec(next(6)))
	}
	return l
}

// width is the number of nodes of a level of a tree with some leaves.
func width(leaves, level int) int {
	for range level {
		leaves = leaves/2 + leaves%2
	}
	return leaves
}

// node is a node by its definition.
func node(digests []uint64, level, i int) uint64 {
	if level == 0 {
		return digests[i]
	}
	if 2*i+1 < width(len(digests), level-1) {
		return checksum.Pair(node(digests, level-1, 2*i), node(digests, level-1, 2*i+1))
	}
	return node(digests, level-1, 2*i)
}

// treeOf is the tree with the digests of some leaves.
func treeOf(size, leaf int, digests ...uint64) api.Tree {
	t := api.Tree{Size: size, Leaf: leaf}
	for level := 0; ; level++ {
		var nodes []uint64
		for i := range width(len(digests), level) {
			nodes = append(nodes, node(digests, level, i))
		}
		t.Levels = append(t.Levels, nodes)
		if len(nodes) <= 1 {
			return t
		}
	}
}

// leavesOf are the sectors of each leaf.
func leavesOf(l []api.Sector, leaf int) [][]api.Sector {
	var leaves [][]api.Sector
	for len(l) > leaf {
		leaves = append(leaves, l[:leaf])
		l = l[leaf:]
	}
	return append(leaves, l)
}

// model is the tree over sectors.
func model(l []api.Sector, leaf int) api.Tree {
	var digests []uint64
	for _, data := range leavesOf(l, leaf) {
		digests = append(digests, checksum.Sectors(data))
	}
	return treeOf(len(l), leaf, digests...)
}

// shapes are sizes of trees and of their leaves.
func shapes() [][2]int {
	l := [][2]int{{4096, 1}, {4095, 1}, {4096, 4096}, {4096, 4095}, {4095, 4096}, {1, 4096}, {2049, 1}, {2048, 1}, {4096, 7}, {1000, 3}}
	for size := 1; size <= 20; size++ {
		for leaf := 1; leaf <= size+2; leaf++ {
			l = append(l, [2]int{size, leaf})
		}
	}
	return l
}

// wrongTree is a tree that Check refuses.
type wrongTree struct {
	tree api.Tree
	err  api.Errno
}

// altered is a tree over sectors that a function has changed.
func altered(size, leaf int, f func(t *api.Tree)) api.Tree {
	t := model(secs(0, size), leaf)
	f(&t)
	return t
}

func wrongTrees() []wrongTree {
	l := []wrongTree{{api.Tree{}, api.ErrRange}, {api.Tree{Levels: [][]uint64{{}}}, api.ErrRange}}
	for _, size := range []int{0, -1, math.MinInt, api.MaxSectors + 1, math.MaxInt} {
		l = append(l, wrongTree{altered(5, 2, func(t *api.Tree) { t.Size = size }), api.ErrRange})
		// The size is checked first.
		l = append(l, wrongTree{api.Tree{Size: size, Leaf: 0}, api.ErrRange})
	}
	for _, leaf := range []int{0, -1, math.MinInt, api.MaxSectors + 1, math.MaxInt} {
		l = append(l, wrongTree{altered(5, 2, func(t *api.Tree) { t.Leaf = leaf }), api.ErrArg})
		l = append(l, wrongTree{api.Tree{Size: 4096, Leaf: leaf}, api.ErrArg})
	}
	return append(append(l, wrongForms()...), wrongNodes()...)
}

func wrongForms() []wrongTree {
	l := []wrongTree{
		{api.Tree{Size: 1, Leaf: 1}, api.ErrForm},
		{api.Tree{Size: 1, Leaf: 1, Levels: [][]uint64{{}}}, api.ErrForm},
		{api.Tree{Size: 1, Leaf: 1, Levels: [][]uint64{nil, {7}}}, api.ErrForm},
		{api.Tree{Size: 1, Leaf: 1, Levels: [][]uint64{{7}, {7}}}, api.ErrForm},
		{api.Tree{Size: 1, Leaf: 1, Levels: [][]uint64{{7}, {}}}, api.ErrForm},
		{api.Tree{Size: 2, Leaf: 1, Levels: [][]uint64{{7, 7}}}, api.ErrForm},
		{api.Tree{Size: 2, Leaf: 2, Levels: [][]uint64{{7, 7}, {checksum.Pair(7, 7)}}}, api.ErrForm},
		{api.Tree{Size: 3, Leaf: 2, Levels: [][]uint64{{7}}}, api.ErrForm},
	}
	for _, f := range []func(t *api.Tree){
		func(t *api.Tree) { t.Size = 6 },
		func(t *api.Tree) { t.Size = 8 },
		func(t *api.Tree) { t.Size = 11 },
		func(t *api.Tree) { t.Leaf = 1 },
		func(t *api.Tree) { t.Levels = nil },
		func(t *api.Tree) { t.Levels = t.Levels[1:] },
		func(t *api.Tree) { t.Levels = t.Levels[:len(t.Levels)-1] },
		func(t *api.Tree) { t.Levels = append(t.Levels, nil) },
		func(t *api.Tree) { t.Levels = append(t.Levels, t.Levels[len(t.Levels)-1]) },
		func(t *api.Tree) { t.Levels = slices.Insert(t.Levels, 1, t.Levels[0]) },
		func(t *api.Tree) { t.Levels = slices.Delete(t.Levels, 2, 3) },
		// The numbers of nodes are checked before the nodes.
		func(t *api.Tree) { t.Levels[1][0]++; t.Levels[3] = append(t.Levels[3], 9) },
		func(t *api.Tree) { t.Levels[1][0]++; t.Levels = t.Levels[:3] },
		func(t *api.Tree) { t.Levels[3][0]++; t.Levels = append(t.Levels, []uint64{1}) },
	} {
		l = append(l, wrongTree{altered(9, 2, f), api.ErrForm})
	}
	for level := range 4 {
		l = append(l,
			wrongTree{altered(9, 2, func(t *api.Tree) { t.Levels[level] = append(t.Levels[level], 9) }), api.ErrForm},
			wrongTree{altered(9, 2, func(t *api.Tree) { t.Levels[level] = t.Levels[level][1:] }), api.ErrForm},
			wrongTree{altered(9, 2, func(t *api.Tree) { t.Levels[level] = nil }), api.ErrForm})
	}
	return l
}

// wrongNodes are trees with one node that does not follow from those below.
func wrongNodes() []wrongTree {
	var l []wrongTree
	for _, size := range []int{2, 3, 5, 6, 7, 8, 11} {
		for level := 1; width(size, level-1) > 1; level++ {
			for i := range width(size, level) {
				for _, bit := range []int{0, 31, 63} {
					l = append(l, wrongTree{altered(size, 1, func(t *api.Tree) { t.Levels[level][i] ^= 1 << bit }), api.ErrMismatch})
				}
			}
		}
		l = append(l, wrongTree{altered(size, 1, func(t *api.Tree) { t.Levels[0][size-1]++ }), api.ErrMismatch})
	}
	// A node that is taken over is not a pair of a node with itself, nor a pair with 0.
	l = append(l,
		wrongTree{api.Tree{Size: 3, Leaf: 1, Levels: [][]uint64{{1, 2, 3}, {checksum.Pair(1, 2), checksum.Pair(3, 3)}, {checksum.Pair(checksum.Pair(1, 2), checksum.Pair(3, 3))}}}, api.ErrMismatch},
		wrongTree{api.Tree{Size: 3, Leaf: 1, Levels: [][]uint64{{1, 2, 3}, {checksum.Pair(1, 2), checksum.Pair(3, 0)}, {checksum.Pair(checksum.Pair(1, 2), checksum.Pair(3, 0))}}}, api.ErrMismatch},
		wrongTree{api.Tree{Size: 2, Leaf: 1, Levels: [][]uint64{{1, 2}, {checksum.Pair(2, 1)}}}, api.ErrMismatch})
	return l
}

func equal(a, b api.Tree) bool {
	return a.Size == b.Size && a.Leaf == b.Leaf && slices.EqualFunc(a.Levels, b.Levels, slices.Equal[[]uint64])
}

// expect reports a tree or an error that is not the wanted one; beside an error the tree has to be empty.
func expect(t *testing.T, what string, got api.Tree, err api.Errno, want api.Tree, code api.Errno) {
	t.Helper()
	if code != api.OK {
		want = api.Tree{}
	}
	if err != code || !equal(got, want) {
		t.Errorf("%s: got %v, %d, want %v, %d", what, got, err, want, code)
	}
}

// expectExtents reports extents or an error that are not the wanted ones.
func expectExtents(t *testing.T, what string, got []api.Extent, err api.Errno, want []api.Extent, code api.Errno) {
	t.Helper()
	if err != code || !slices.Equal(got, want) {
		t.Errorf("%s: got %v, %d, want %v, %d", what, got, err, want, code)
	}
}

// expectProof reports a proof or an error that are not the wanted ones.
func expectProof(t *testing.T, what string, got []uint64, err api.Errno, want []uint64, code api.Errno) {
	t.Helper()
	if err != code || !slices.Equal(got, want) {
		t.Errorf("%s: got %v, %d, want %v, %d", what, got, err, want, code)
	}
}

func TestP111Build(t *testing.T) {
	for i, shape := range shapes() {
		l := randomSectors(random(uint32(i)), shape[0])
		got, err := hashtree.Build(l, shape[1])
		expect(t, "Build", got, err, model(l, shape[1]), api.OK)
		if err := hashtree.Check(got); err != api.OK {
			t.Errorf("Check of the tree of %d sectors with leaves of %d: got %d", shape[0], shape[1], err)
		}
	}
}

func TestP111BuildErrors(t *testing.T) {
	for _, x := range []struct {
		sectors, leaf int
		want          api.Errno
	}{
		{0, 1, api.ErrRange},
		{api.MaxSectors + 1, 1, api.ErrRange},
		{2 * api.MaxSectors, 4, api.ErrRange},
		// The number of sectors is checked first.
		{0, 0, api.ErrRange},
		{api.MaxSectors + 1, -1, api.ErrRange},
		{1, 0, api.ErrArg},
		{1, -1, api.ErrArg},
		{1, math.MinInt, api.ErrArg},
		{1, math.MaxInt, api.ErrArg},
		{1, api.MaxSectors + 1, api.ErrArg},
		{api.MaxSectors, api.MaxSectors + 1, api.ErrArg},
		{api.MaxSectors, 0, api.ErrArg},
	} {
		got, err := hashtree.Build(make([]api.Sector, x.sectors), x.leaf)
		expect(t, "Build with an error", got, err, api.Tree{}, x.want)
	}
}

func TestP111Example1(t *testing.T) {
	l := secs(1, 5)
	a, b, c := checksum.Sectors(l[:2]), checksum.Sectors(l[2:4]), checksum.Sectors(l[4:])
	pair := checksum.Pair(a, b)
	want := api.Tree{Size: 5, Leaf: 2, Levels: [][]uint64{{a, b, c}, {pair, c}, {checksum.Pair(pair, c)}}}
	got, err := hashtree.Build(l, 2)
	expect(t, "Build", got, err, want, api.OK)
	if root := hashtree.Root(want); root != checksum.Pair(pair, c) {
		t.Errorf("Root: got %x", root)
	}
}

func TestP111Check(t *testing.T) {
	for _, tree := range []api.Tree{
		treeOf(1, 1, 0),
		treeOf(3, 3, 5),
		treeOf(3, 4096, math.MaxUint64),
		treeOf(4096, 4096, 5),
		// The digests of the leaves may be any.
		treeOf(3, 1, 0, 0, 0),
		treeOf(5, 2, 1, 2, 3),
		treeOf(4096, 1, make([]uint64, 4096)...),
		treeOf(4096, 2, make([]uint64, 2048)...),
		treeOf(4095, 2, make([]uint64, 2048)...),
	} {
		if err := hashtree.Check(tree); err != api.OK {
			t.Errorf("Check of %d sectors with leaves of %d: got %d", tree.Size, tree.Leaf, err)
		}
	}
	for i, wrong := range wrongTrees() {
		if err := hashtree.Check(wrong.tree); err != wrong.err {
			t.Errorf("Check of the wrong tree %d, %v: got %d, want %d", i, wrong.tree, err, wrong.err)
		}
	}
}

// updated is a tree after Update by the definition.
func updated(tree api.Tree, l []api.Sector, e api.Extent) api.Tree {
	digests := slices.Clone(tree.Levels[0])
	for i, data := range leavesOf(l, tree.Leaf) {
		for k := range data {
			if at := i*tree.Leaf + k; at >= e.Start && at < e.Start+e.Count {
				digests[i] = checksum.Sectors(data)
			}
		}
	}
	return treeOf(tree.Size, tree.Leaf, digests...)
}

func TestP111Update(t *testing.T) {
	for size := 1; size <= 9; size++ {
		for leaf := 1; leaf <= size+1; leaf++ {
			tree := model(secs(0, size), leaf)
			// All sectors have changed, so that only the leaves of the extent may be those of l.
			l := secs(100, size)
			for start := range size + 1 {
				for count := range size - start + 1 {
					e := api.Extent{Start: start, Count: count}
					got, err := hashtree.Update(tree, l, e)
					expect(t, "Update", got, err, updated(tree, l, e), api.OK)
				}
				got, err := hashtree.Update(tree, l, api.Extent{Start: start})
				expect(t, "Update of no sectors", got, err, tree, api.OK)
			}
		}
	}
	for _, leaf := range []int{1, 5, 4096} {
		tree, l := model(secs(0, 4096), leaf), secs(7, 4096)
		for _, e := range []api.Extent{{Start: 0, Count: 4096}, {Start: 4095, Count: 1}, {Start: 4096}, {Start: 0, Count: 1}, {Start: 17, Count: 1000}} {
			got, err := hashtree.Update(tree, l, e)
			expect(t, "Update of a great tree", got, err, updated(tree, l, e), api.OK)
		}
	}
	// Leaves outside of the extent keep digests that are those of no sectors.
	got, err := hashtree.Update(treeOf(3, 1, 1, 2, 3), secs(5, 3), api.Extent{Start: 1, Count: 1})
	expect(t, "Update of one leaf", got, err, treeOf(3, 1, 1, checksum.Sectors(secs(6, 1)), 3), api.OK)
}

func TestP111UpdateErrors(t *testing.T) {
	tree := model(secs(0, 5), 2)
	for _, sectors := range []int{0, 1, 4, 6, 5000} {
		// The number of sectors is checked before the extent.
		for _, e := range []api.Extent{{}, {Start: 0, Count: 1}, {Start: -1}, {Start: 6}} {
			got, err := hashtree.Update(tree, make([]api.Sector, sectors), e)
			expect(t, "Update with a wrong number of sectors", got, err, api.Tree{}, api.ErrMany)
		}
	}
	for _, e := range []api.Extent{
		{Start: -1}, {Start: -1, Count: 1}, {Start: -1, Count: 2}, {Count: -1}, {Start: 5, Count: -1}, {Start: 2, Count: -1},
		{Start: 5, Count: 1}, {Start: 6}, {Count: 6}, {Start: 4, Count: 2}, {Start: 6, Count: -1},
		{Start: math.MaxInt, Count: math.MaxInt}, {Start: math.MaxInt}, {Count: math.MaxInt}, {Start: 1, Count: math.MaxInt},
		{Start: math.MinInt, Count: math.MinInt}, {Start: math.MinInt}, {Count: math.MinInt}, {Start: math.MinInt, Count: math.MaxInt}, {Start: math.MaxInt, Count: math.MinInt},
	} {
		got, err := hashtree.Update(tree, secs(0, 5), e)
		expect(t, "Update with a wrong extent", got, err, api.Tree{}, api.ErrRange)
	}
	for _, wrong := range wrongTrees() {
		for _, sectors := range []int{0, 5} {
			got, err := hashtree.Update(wrong.tree, make([]api.Sector, sectors), api.Extent{Start: -1})
			expect(t, "Update of a wrong tree", got, err, api.Tree{}, wrong.err)
		}
	}
}

func TestP111Root(t *testing.T) {
	for i, shape := range shapes() {
		l := randomSectors(random(uint32(i)), shape[0])
		tree := model(l, shape[1])
		if got, want := hashtree.Root(tree), tree.Levels[len(tree.Levels)-1][0]; got != want {
			t.Errorf("Root of %d sectors with leaves of %d: got %x, want %x", shape[0], shape[1], got, want)
		}
	}
	if got := hashtree.Root(treeOf(2, 4, 77)); got != 77 {
		t.Errorf("Root of one leaf: got %d", got)
	}
	for i, wrong := range wrongTrees() {
		if got := hashtree.Root(wrong.tree); got != 0 {
			t.Errorf("Root of the wrong tree %d: got %x", i, got)
		}
	}
}

// visit marks the leaves that a walk finds below a node, by the definition.
func visit(a, b api.Tree, level, i int, found []bool) {
	if i >= len(a.Levels[level]) || a.Levels[level][i] == b.Levels[level][i] {
		return
	}
	if level == 0 {
		found[i] = true
		return
	}
	visit(a, b, level-1, 2*i, found)
	visit(a, b, level-1, 2*i+1, found)
}

// sectorsOf are the extents of the sectors of leaves.
func sectorsOf(size, leaf int, found []bool) []api.Extent {
	var l []api.Extent
	for at := range size {
		switch last := len(l) - 1; {
		case !found[at/leaf]:
		case last >= 0 && l[last].Start+l[last].Count == at:
			l[last].Count++
		default:
			l = append(l, api.Extent{Start: at, Count: 1})
		}
	}
	return l
}

// checkDiffer compares Differ with a walk by the definition.
func checkDiffer(t *testing.T, a, b api.Tree) {
	t.Helper()
	found := make([]bool, len(a.Levels[0]))
	visit(a, b, len(a.Levels)-1, 0, found)
	want := sectorsOf(a.Size, a.Leaf, found)
	got, err := hashtree.Differ(a, b)
	expectExtents(t, "Differ", got, err, want, api.OK)
	if err := extent.Check(got, a.Size); err != api.OK {
		t.Errorf("Differ: %v is not canonical, %d", got, err)
	}
	other, err := hashtree.Differ(b, a)
	expectExtents(t, "Differ the other way", other, err, want, api.OK)
}

func TestP112Differ(t *testing.T) {
	for i, shape := range shapes() {
		next := random(uint32(i))
		l := randomSectors(next, shape[0])
		tree := model(l, shape[1])
		checkDiffer(t, tree, tree)
		for _, changes := range []int{1, 2, shape[0]} {
			changed := slices.Clone(l)
			for range changes {
				changed[next(len(l))] = sec(next(6))
			}
			checkDiffer(t, tree, model(changed, shape[1]))
		}
	}
}

func TestP112DifferOfDigests(t *testing.T) {
	for leaves := 1; leaves <= 9; leaves++ {
		for seed := range 40 {
			next := random(uint32(seed))
			var a, b []uint64
			for range leaves {
				a, b = append(a, uint64(next(2))), append(b, uint64(next(2)))
			}
			for _, leaf := range []int{1, 2, 3} {
				for size := leaves*leaf - leaf + 1; size <= leaves*leaf; size++ {
					checkDiffer(t, treeOf(size, leaf, a...), treeOf(size, leaf, b...))
				}
			}
		}
	}
}

func TestP112DifferOfCollisions(t *testing.T) {
	x, y := samePairs[0], samePairs[1]
	if checksum.Pair(x[0], x[1]) != checksum.Pair(y[0], y[1]) {
		t.Fatalf("the digests of %x and %x differ", x, y)
	}
	// Below equal nodes nothing is found.
	got, err := hashtree.Differ(treeOf(2, 1, x[:]...), treeOf(2, 1, y[:]...))
	expectExtents(t, "Differ of the same roots", got, err, nil, api.OK)
	a := treeOf(11, 2, x[0], x[1], 1, 2, x[0], x[1])
	b := treeOf(11, 2, y[0], y[1], 1, 3, x[0], 4)
	checkDiffer(t, a, b)
	got, err = hashtree.Differ(a, b)
	expectExtents(t, "Differ beside the same nodes", got, err, []api.Extent{{Start: 6, Count: 2}, {Start: 10, Count: 1}}, api.OK)
	// Nor below an equal node between two others that differ.
	a = treeOf(6, 1, 1, 2, x[0], x[1], 3, 4)
	b = treeOf(6, 1, 5, 6, y[0], y[1], 7, 8)
	got, err = hashtree.Differ(a, b)
	expectExtents(t, "Differ on both sides of the same nodes", got, err, []api.Extent{{Start: 0, Count: 2}, {Start: 4, Count: 2}}, api.OK)
}

func TestP112DifferErrors(t *testing.T) {
	good := model(secs(0, 5), 2)
	for _, other := range []api.Tree{model(secs(0, 6), 2), model(secs(0, 5), 1), model(secs(0, 4), 2), model(secs(0, 3), 3), treeOf(6, 2, good.Levels[0]...), treeOf(3, 1, good.Levels[0]...)} {
		got, err := hashtree.Differ(good, other)
		expectExtents(t, "Differ of other trees", got, err, nil, api.ErrMismatch)
		got, err = hashtree.Differ(other, good)
		expectExtents(t, "Differ of other trees", got, err, nil, api.ErrMismatch)
	}
	for i, wrong := range wrongTrees() {
		got, err := hashtree.Differ(wrong.tree, good)
		expectExtents(t, "Differ of a wrong tree", got, err, nil, wrong.err)
		got, err = hashtree.Differ(good, wrong.tree)
		expectExtents(t, "Differ from a wrong tree", got, err, nil, wrong.err)
		// The first tree is checked first.
		other := wrongTrees()[(i*7+3)%len(wrongTrees())]
		got, err = hashtree.Differ(wrong.tree, other.tree)
		expectExtents(t, "Differ of two wrong trees", got, err, nil, wrong.err)
	}
}

func TestP112Example2(t *testing.T) {
	l := secs(1, 5)
	for _, x := range []struct {
		at   int
		want api.Extent
	}{{4, api.Extent{Start: 4, Count: 1}}, {0, api.Extent{Start: 0, Count: 2}}} {
		changed := slices.Clone(l)
		changed[x.at] = sec(99)
		got, err := hashtree.Differ(model(l, 2), model(changed, 2))
		expectExtents(t, "Differ", got, err, []api.Extent{x.want}, api.OK)
	}
}

func TestP112Example3(t *testing.T) {
	tree := model(secs(1, 5), 2)
	a, b, c := tree.Levels[0][0], tree.Levels[0][1], tree.Levels[0][2]
	for leaf, want := range [][]uint64{{b, c}, {a, c}, {checksum.Pair(a, b)}} {
		got, err := hashtree.Proof(tree, leaf)
		expectProof(t, "Proof", got, err, want, api.OK)
	}
}

// proof is the proof for a leaf by its definition.
func proof(tree api.Tree, leaf int) []uint64 {
	var l []uint64
	for level := range len(tree.Levels) - 1 {
		nodes := tree.Levels[level]
		parent := leaf >> level >> 1
		for i := 2 * parent; i <= 2*parent+1 && i < len(nodes); i++ {
			if i != leaf>>level {
				l = append(l, nodes[i])
			}
		}
	}
	return l
}

func TestP112Proof(t *testing.T) {
	for i, shape := range shapes() {
		tree := model(randomSectors(random(uint32(i)), shape[0]), shape[1])
		leaves := len(tree.Levels[0])
		for leaf := range leaves {
			if leaf > 20 && leaf < leaves-20 {
				continue
			}
			got, err := hashtree.Proof(tree, leaf)
			expectProof(t, "Proof", got, err, proof(tree, leaf), api.OK)
		}
		for _, leaf := range []int{-1, math.MinInt, leaves, leaves + 1, math.MaxInt, leaves ^ 1} {
			if leaf >= 0 && leaf < leaves {
				continue
			}
			got, err := hashtree.Proof(tree, leaf)
			expectProof(t, "Proof for no leaf", got, err, nil, api.ErrRange)
		}
	}
	for _, wrong := range wrongTrees() {
		for _, leaf := range []int{0, -1} {
			got, err := hashtree.Proof(wrong.tree, leaf)
			expectProof(t, "Proof of a wrong tree", got, err, nil, wrong.err)
		}
	}
}

// claim is what Verify gets.
type claim struct {
	root              uint64
	size, leaf, index int
	data              []api.Sector
	proof             []uint64
}

func (c claim) holds() bool {
	return hashtree.Verify(c.root, c.size, c.leaf, c.index, c.data, c.proof)
}

// lie is a claim that does not hold.
type lie struct {
	what string
	claim
}

// claims are those that a tree allows.
func claims(l []api.Sector, leaf int) []claim {
	tree := model(l, leaf)
	var all []claim
	for i, data := range leavesOf(l, leaf) {
		all = append(all, claim{tree.Levels[len(tree.Levels)-1][0], len(l), leaf, i, data, proof(tree, i)})
	}
	return all
}

// falsified are claims that differ from a true one, of a tree whose sectors all differ, and do not hold.
func falsified(c claim) []lie {
	var all []lie
	change := func(what string, f func(c *claim)) {
		other := c
		other.data, other.proof = slices.Clone(c.data), slices.Clone(c.proof)
		f(&other)
		all = append(all, lie{what, other})
	}
	change("another root", func(c *claim) { c.root ^= 1 << 40 })
	change("the root 0", func(c *claim) { c.root = 0 })
	change("no sectors", func(c *claim) { c.data = nil })
	change("a sector more", func(c *claim) { c.data = append(c.data, sec(9)) })
	change("a sector less", func(c *claim) { c.data = c.data[1:] })
	change("another sector", func(c *claim) { c.data[len(c.data)-1][7] ^= 1 })
	change("an element more", func(c *claim) { c.proof = append(c.proof, 0) })
	change("the root as an element", func(c *claim) { c.proof = append(c.proof, c.root) })
	change("an element more in front", func(c *claim) { c.proof = append([]uint64{0}, c.proof...) })
	for i := range c.proof {
		change("another element", func(c *claim) { c.proof[i]++ })
		change("an element less", func(c *claim) { c.proof = slices.Delete(c.proof, i, i+1) })
		change("a shorter proof", func(c *claim) { c.proof = c.proof[:i] })
	}
	for _, index := range []int{-1, c.index - 1, c.index + 1, c.index ^ 1, c.index + 4096, math.MinInt, math.MaxInt, -c.index - 1} {
		change("another index", func(c *claim) { c.index = index })
	}
	for _, size := range []int{0, -1, math.MinInt, math.MaxInt, api.MaxSectors + 1, 2 * api.MaxSectors} {
		change("a wrong size", func(c *claim) { c.size = size })
	}
	for _, leaf := range []int{0, -1, math.MinInt, math.MaxInt, api.MaxSectors + 1, -c.leaf} {
		change("a wrong leaf", func(c *claim) { c.leaf = leaf })
	}
	return all
}

func TestP112Verify(t *testing.T) {
	for size := 1; size <= 12; size++ {
		for leaf := 1; leaf <= size+1; leaf++ {
			for _, c := range claims(secs(0, size), leaf) {
				if !c.holds() {
					t.Errorf("Verify(%v): got false", c)
				}
				for _, other := range falsified(c) {
					if other.holds() {
						t.Errorf("Verify with %s (%v instead of %v): got true", other.what, other.claim, c)
					}
				}
			}
		}
	}
	for _, leaf := range []int{1, 3, 4095, 4096} {
		all := claims(secs(0, 4096), leaf)
		for _, c := range []claim{all[0], all[len(all)/2], all[len(all)-1]} {
			if !c.holds() {
				t.Errorf("Verify of leaf %d with leaves of %d: got false", c.index, leaf)
			}
		}
	}
	// A leaf that does not exist has no sectors, but is not accepted with none.
	for _, x := range [][3]int{{4, 2, 2}, {1, 1, 1}, {1, 1, 2}, {5, 5, 1}, {8, 2, 4}, {4096, 4096, 1}} {
		c := claim{checksum.Sectors(nil), x[0], x[1], x[2], nil, nil}
		if c.holds() {
			t.Errorf("Verify(%v): got true", c)
		}
	}
}

// The place of a leaf says on which side the elements of a proof are, and where a node is taken over.
func TestP112VerifySides(t *testing.T) {
	data := secs(5, 1)
	d := checksum.Sectors(data)
	for _, x := range []struct {
		size, index int
		root        uint64
		proof       []uint64
	}{
		{1, 0, d, nil},
		{2, 0, checksum.Pair(d, 1), []uint64{1}},
		{2, 1, checksum.Pair(1, d), []uint64{1}},
		{3, 2, checksum.Pair(1, d), []uint64{1}},
		{3, 1, checksum.Pair(checksum.Pair(1, d), 2), []uint64{1, 2}},
		{5, 4, checksum.Pair(1, d), []uint64{1}},
		{6, 4, checksum.Pair(2, checksum.Pair(d, 1)), []uint64{1, 2}},
		{7, 6, checksum.Pair(2, checksum.Pair(1, d)), []uint64{1, 2}},
		{8, 5, checksum.Pair(3, checksum.Pair(checksum.Pair(1, d), 2)), []uint64{1, 2, 3}},
		{4096, 0, 0, nil},
		{4096, 4095, 0, nil},
	} {
		c := claim{x.root, x.size, 1, x.index, data, x.proof}
		if got := c.holds(); got != (x.root != 0) {
			t.Errorf("Verify(%v): got %v", c, got)
		}
		if x.size < 9 {
			for index := range x.size {
				c.index = index
				// The same numbers make the same root only at a place with the same sides.
				if c.holds() != (root(x.size, index, d, x.proof) == x.root) {
					t.Errorf("Verify(%v): got %v", c, c.holds())
				}
			}
		}
	}
}

// root is what results from the digest of a leaf and a proof, by the definition; 0 if the proof has a wrong length.
func root(size, index int, digest uint64, proof []uint64) uint64 {
	for level := 0; width(size, level) > 1; level++ {
		i := index >> level
		switch {
		case i%2 == 0 && i+1 == width(size, level):
			continue
		case len(proof) == 0:
			return 0
		case i%2 == 0:
			digest = checksum.Pair(digest, proof[0])
		default:
			digest = checksum.Pair(proof[0], digest)
		}
		proof = proof[1:]
	}
	if len(proof) > 0 {
		return 0
	}
	return digest
}

func TestP113UpdateOfChanges(t *testing.T) {
	for seed := range 60 {
		next := random(uint32(seed))
		size, leaf := 1+next(30), 1+next(8)
		l := randomSectors(next, size)
		tree, err := hashtree.Build(l, leaf)
		if err != api.OK {
			t.Fatalf("Build: got %d", err)
		}
		for range 10 {
			e := api.Extent{Start: next(size)}
			e.Count = next(size - e.Start + 1)
			l = slices.Clone(l)
			copy(l[e.Start:e.Start+e.Count], randomSectors(next, e.Count))
			tree, err = hashtree.Update(tree, l, e)
			whole, _ := hashtree.Build(l, leaf)
			expect(t, "Update", tree, err, whole, api.OK)
		}
	}
}

func TestP113DifferFindsChanges(t *testing.T) {
	for seed := range 60 {
		next := random(uint32(seed))
		size, leaf := 1+next(40), 1+next(8)
		a := randomSectors(next, size)
		b := slices.Clone(a)
		for range next(5) {
			b[next(size)] = sec(next(6))
		}
		x, _ := hashtree.Build(a, leaf)
		y, _ := hashtree.Build(b, leaf)
		got, err := hashtree.Differ(x, y)
		var found []bool
		for i, data := range leavesOf(a, leaf) {
			found = append(found, !slices.Equal(data, leavesOf(b, leaf)[i]))
		}
		expectExtents(t, "Differ", got, err, sectorsOf(size, leaf, found), api.OK)
	}
	// Different sectors with the same digest are not found.
	x, _ := hashtree.Build([]api.Sector{sameSectors[0], sec(1)}, 1)
	y, _ := hashtree.Build([]api.Sector{sameSectors[1], sec(2)}, 1)
	got, err := hashtree.Differ(x, y)
	expectExtents(t, "Differ of sectors with the same digest", got, err, []api.Extent{{Start: 1, Count: 1}}, api.OK)
}

func TestP113VerifyAcceptsProofs(t *testing.T) {
	for seed := range 40 {
		next := random(uint32(seed))
		size, leaf := 1+next(30), 1+next(6)
		l := randomSectors(next, size)
		l[next(size)] = sameSectors[0]
		tree, _ := hashtree.Build(l, leaf)
		for i, data := range leavesOf(l, leaf) {
			proof, err := hashtree.Proof(tree, i)
			c := claim{hashtree.Root(tree), size, leaf, i, data, proof}
			if err != api.OK || !c.holds() {
				t.Fatalf("Verify(%v): got false; the error of Proof is %d", c, err)
			}
			for _, s := range [3]api.Sector{sec(7), sec(next(6)), sameSectors[1]} {
				other := slices.Clone(l)
				other[i*leaf+next(len(data))] = s
				changed, _ := hashtree.Build(other, leaf)
				c.data = leavesOf(other, leaf)[i]
				// Other data is accepted exactly if the tree with it has the same root.
				if c.holds() != (hashtree.Root(changed) == c.root) {
					t.Errorf("Verify(%v): got %v", c, c.holds())
				}
			}
		}
	}
	l := []api.Sector{sec(1), sameSectors[0], sec(2)}
	tree, _ := hashtree.Build(l, 1)
	proof, _ := hashtree.Proof(tree, 1)
	if !hashtree.Verify(hashtree.Root(tree), 3, 1, 1, sameSectors[1:], proof) {
		t.Errorf("Verify refuses a sector with the same digest")
	}
}

// spare is a list with numbers in its spare capacity.
func spare[T any](l []T, more ...T) []T {
	return append(slices.Clone(l), more...)[:len(l)]
}

// argument is a tree whose slices have spare capacity.
func argument() api.Tree {
	t := model(secs(0, 9), 2)
	for i, level := range t.Levels {
		t.Levels[i] = spare(level, 71, 72, 73)
	}
	t.Levels = spare(t.Levels, []uint64{74}, []uint64{75})
	return t
}

// same reports whether two trees are equal in their spare capacity, too.
func same(a, b api.Tree) bool {
	a.Levels, b.Levels = slices.Clone(a.Levels[:6]), slices.Clone(b.Levels[:6])
	for i := range 4 {
		a.Levels[i], b.Levels[i] = a.Levels[i][:len(a.Levels[i])+3], b.Levels[i][:len(b.Levels[i])+3]
	}
	return equal(a, b)
}

// results are what the functions make of their arguments, as trees.
func results(tree api.Tree, l []api.Sector) []api.Tree {
	built, _ := hashtree.Build(l, 2)
	single, _ := hashtree.Build(l, 9)
	some, _ := hashtree.Update(tree, l, api.Extent{Start: 2, Count: 3})
	none, _ := hashtree.Update(tree, l, api.Extent{})
	proof, _ := hashtree.Proof(tree, 1)
	// The only difference is one that spans an extent alone, so that nothing has to be joined.
	differ, _ := hashtree.Differ(tree, some)
	var numbers []uint64
	for _, e := range differ {
		numbers = append(numbers, uint64(e.Start), uint64(e.Count))
	}
	return []api.Tree{built, single, some, none, {Levels: [][]uint64{proof}}, {Levels: [][]uint64{numbers}}}
}

// spoil changes everything that can be reached from a tree, with the spare capacity.
func spoil(t api.Tree) {
	for _, level := range t.Levels[:cap(t.Levels)] {
		for i := range level[:cap(level)] {
			level[:cap(level)][i] = 999
		}
	}
	clear(t.Levels[:cap(t.Levels)])
}

func TestValues(t *testing.T) {
	tree, l := argument(), spare(secs(50, 9), sec(1))
	got, wanted := results(tree, l), results(argument(), secs(50, 9))
	list := spare(proof(tree, 1), 5)
	hashtree.Verify(hashtree.Root(tree), 9, 2, 1, secs(2, 2), list)
	if !same(tree, argument()) || !slices.Equal(l[:10], append(secs(50, 9), sec(1))) || !slices.Equal(list[:4], append(proof(tree, 1), 5)) {
		t.Errorf("an argument is modified: %v, %v, %v", tree, l, list)
	}
	spoil(tree)
	clear(l)
	for i := range got {
		expect(t, "a result after a change of the arguments", got[i], api.OK, wanted[i], api.OK)
		for level := range got[i].Levels {
			// The levels of one tree share no memory either.
			nodes := got[i].Levels[level]
			for k := range nodes[:cap(nodes)] {
				nodes[:cap(nodes)][k] = 999
			}
			for k := level + 1; k < len(got[i].Levels); k++ {
				if !slices.Equal(got[i].Levels[k], wanted[i].Levels[k]) {
					t.Errorf("the level %d changes with the level %d", k, level)
				}
			}
		}
		spoil(got[i])
		for k := i + 1; k < len(got); k++ {
			expect(t, "a result after a change of another one", got[k], api.OK, wanted[k], api.OK)
		}
	}
}
