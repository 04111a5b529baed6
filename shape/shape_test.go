package shape_test

import (
	"math"
	"math/rand"
	"slices"
	"strconv"
	"strings"
	"testing"

	"engrosser/api"
	"engrosser/shape"
)

// sizes are the numbers of leaves that a tree can have.
func sizes() []int {
	return []int{1, 2, 4, 8, 16, 32}
}

// place is a node of a tree, with -1 for a node that there isn't.
type place struct {
	left, right, above int
	first, last        int
	height             int
}

// grown is a list of places to which a tree with n leaves is added, and the
// number of that tree's root. Places are numbered from left to right: those of
// the left half, the branch, those of the right half.
func grown(places []place, n int) ([]place, int) {
	if n == 1 {
		leaf := len(places) / 2
		return append(places, place{left: -1, right: -1, above: -1, first: leaf, last: leaf}), len(places)
	}
	places, left := grown(places, n/2)
	at := len(places)
	places, right := grown(append(places, place{}), n/2)
	a, b := places[left], places[right]
	places[at] = place{left: left, right: right, above: -1, first: a.first, last: b.last, height: a.height + 1}
	places[left].above, places[right].above = at, at
	return places, at
}

// tree are the places of a tree with n leaves, none if a tree can't have them.
func tree(n int) []place {
	if !slices.Contains(sizes(), n) {
		return nil
	}
	places, _ := grown(nil, n)
	return places
}

// aboveOf is a parent by the chapter's Terms, and besideOf a sibling.
func aboveOf(node, leaves int) (int, bool) {
	places := tree(leaves)
	if node < 0 || node >= len(places) || places[node].above < 0 {
		return 0, false
	}
	return places[node].above, true
}

func besideOf(node, leaves int) (int, bool) {
	above, ok := aboveOf(node, leaves)
	if !ok {
		return 0, false
	}
	p := tree(leaves)[above]
	if p.left == node {
		return p.right, true
	}
	return p.left, true
}

// pathOf is a leaf's path by the chapter's Terms.
func pathOf(leaf, leaves int) []int {
	var path []int
	for node, p := range tree(leaves) {
		if node%2 == 1 && p.first <= leaf && leaf <= p.last {
			path = append(path, node)
		}
	}
	slices.SortFunc(path, func(a, b int) int { return onesOf(a) - onesOf(b) })
	return path
}

// onesOf is how many of the lowest bits of a number are 1.
func onesOf(n int) int {
	digits := strconv.FormatInt(int64(n), 2)
	return len(digits) - len(strings.TrimRight(digits, "1"))
}

// extremes are the least and the greatest ints, and some beside them.
func extremes() []int {
	return []int{
		math.MinInt, math.MinInt + 1, math.MinInt + 2, math.MinInt + 3, math.MinInt + 31, math.MinInt + 32,
		math.MaxInt - 32, math.MaxInt - 31, math.MaxInt - 3, math.MaxInt - 2, math.MaxInt - 1, math.MaxInt,
	}
}

// far are numbers of any size, many of which have the low bits of a number of
// leaves or of a node.
func far() []int {
	all := extremes()
	for bit := 6; bit < 64; bit++ {
		for low := -33; low <= 65; low++ {
			all = append(all, 1<<bit+low, -1<<bit+low)
		}
	}
	return slices.DeleteFunc(all, func(n int) bool { return -2 <= n && n <= 64 })
}

// numbers are the small ones, and those that are far from them.
func numbers() []int {
	var all []int
	for n := -200; n <= 300; n++ {
		all = append(all, n)
	}
	return append(all, far()...)
}

// checkSize asks whether a tree can have n leaves, and for its width.
func checkSize(t *testing.T, n int) {
	t.Helper()
	if got, want := shape.Fits(n), slices.Contains(sizes(), n); got != want {
		t.Errorf("Fits(%d): got %v", n, got)
	}
	if got, want := shape.Width(n), len(tree(n)); got != want {
		t.Errorf("Width(%d): got %d, want %d", n, got, want)
	}
}

// checkPlace asks for all that a node has in any tree.
func checkPlace(t *testing.T, node int) {
	t.Helper()
	if node < 0 || node > 62 {
		checkLeft(t, node, 0, false)
		checkRight(t, node, 0, false)
		checkLevel(t, node, 0)
		checkUnder(t, node, 0, -1)
		return
	}
	p := tree(32)[node]
	if node%2 == 0 {
		p.left, p.right = 0, 0
	}
	checkLeft(t, node, p.left, node%2 == 1)
	checkRight(t, node, p.right, node%2 == 1)
	checkLevel(t, node, p.height)
	checkUnder(t, node, p.first, p.last)
}

func checkLevel(t *testing.T, node, want int) {
	t.Helper()
	if got := shape.Level(node); got != want {
		t.Errorf("Level(%d): got %d, want %d", node, got, want)
	}
}

func checkLeft(t *testing.T, node, want int, is bool) {
	t.Helper()
	if got, ok := shape.Left(node); got != want || ok != is {
		t.Errorf("Left(%d): got %d, %v, want %d, %v", node, got, ok, want, is)
	}
}

func checkRight(t *testing.T, node, want int, is bool) {
	t.Helper()
	if got, ok := shape.Right(node); got != want || ok != is {
		t.Errorf("Right(%d): got %d, %v, want %d, %v", node, got, ok, want, is)
	}
}

func checkUnder(t *testing.T, node, first, last int) {
	t.Helper()
	if a, b := shape.Under(node); a != first || b != last {
		t.Errorf("Under(%d): got %d, %d, want %d, %d", node, a, b, first, last)
	}
}

func checkAbove(t *testing.T, node, leaves, want int, is bool) {
	t.Helper()
	if got, ok := shape.Above(node, leaves); got != want || ok != is {
		t.Errorf("Above(%d, %d): got %d, %v, want %d, %v", node, leaves, got, ok, want, is)
	}
}

func checkBeside(t *testing.T, node, leaves, want int, is bool) {
	t.Helper()
	if got, ok := shape.Beside(node, leaves); got != want || ok != is {
		t.Errorf("Beside(%d, %d): got %d, %v, want %d, %v", node, leaves, got, ok, want, is)
	}
}

func checkPath(t *testing.T, leaf, leaves int, want ...int) {
	t.Helper()
	if got := shape.Path(leaf, leaves); !slices.Equal(got, want) {
		t.Errorf("Path(%d, %d): got %v, want %v", leaf, leaves, got, want)
	}
}

// checkLeaf asks for the path of any leaf.
func checkLeaf(t *testing.T, leaf, leaves int) {
	t.Helper()
	checkPath(t, leaf, leaves, pathOf(leaf, leaves)...)
}

// checkIn asks for all that a node has in a tree.
func checkIn(t *testing.T, node, leaves int) {
	t.Helper()
	above, ok := aboveOf(node, leaves)
	checkAbove(t, node, leaves, above, ok)
	beside, ok := besideOf(node, leaves)
	checkBeside(t, node, leaves, beside, ok)
}

// checkNowhere asks for what a node hasn't: it is not in that tree, or there is
// no such tree.
func checkNowhere(t *testing.T, node, leaves int) {
	t.Helper()
	checkAbove(t, node, leaves, 0, false)
	checkBeside(t, node, leaves, 0, false)
}

// P18.1: the limit that the chapter names is that of api.
func TestLimits(t *testing.T) {
	if api.MaxLeaves != 32 {
		t.Error("another limit")
	}
}

// P18.1 to P18.3: the chapter's example, a tree with four leaves.
func TestExample(t *testing.T) {
	if !shape.Fits(4) || shape.Width(4) != 7 {
		t.Errorf("four leaves: %v, %d nodes", shape.Fits(4), shape.Width(4))
	}
	checkPath(t, 2, 4, 5, 3)
	for node := range 7 {
		if _, ok := shape.Above(node, 4); ok != (node != 3) {
			t.Errorf("Above(%d, 4): %v", node, ok)
		}
	}
	checkNowhere(t, 3, 4)
	checkNowhere(t, 7, 4)
}

// P18.1 to P18.3: a tree with eight leaves, written down by hand from the
// chapter's Terms.
func TestEightLeaves(t *testing.T) {
	tests := []struct{ node, level, left, right, above, beside, first, last int }{
		{0, 0, 0, 0, 1, 2, 0, 0},
		{1, 1, 0, 2, 3, 5, 0, 1},
		{2, 0, 0, 0, 1, 0, 1, 1},
		{3, 2, 1, 5, 7, 11, 0, 3},
		{4, 0, 0, 0, 5, 6, 2, 2},
		{5, 1, 4, 6, 3, 1, 2, 3},
		{6, 0, 0, 0, 5, 4, 3, 3},
		{7, 3, 3, 11, 0, 0, 0, 7},
		{8, 0, 0, 0, 9, 10, 4, 4},
		{9, 1, 8, 10, 11, 13, 4, 5},
		{10, 0, 0, 0, 9, 8, 5, 5},
		{11, 2, 9, 13, 7, 3, 4, 7},
		{12, 0, 0, 0, 13, 14, 6, 6},
		{13, 1, 12, 14, 11, 9, 6, 7},
		{14, 0, 0, 0, 13, 12, 7, 7},
	}
	for _, x := range tests {
		checkLevel(t, x.node, x.level)
		checkLeft(t, x.node, x.left, x.level > 0)
		checkRight(t, x.node, x.right, x.level > 0)
		checkAbove(t, x.node, 8, x.above, x.node != 7)
		checkBeside(t, x.node, 8, x.beside, x.node != 7)
		checkUnder(t, x.node, x.first, x.last)
	}
	checkPath(t, 0, 8, 1, 3, 7)
	checkPath(t, 1, 8, 1, 3, 7)
	checkPath(t, 2, 8, 5, 3, 7)
	checkPath(t, 3, 8, 5, 3, 7)
	checkPath(t, 4, 8, 9, 11, 7)
	checkPath(t, 5, 8, 9, 11, 7)
	checkPath(t, 6, 8, 13, 11, 7)
	checkPath(t, 7, 8, 13, 11, 7)
}

// knowns are, of each node of the tree with 32 leaves, the parent and the
// sibling (-1 of the root), and the first and the last leaf below it. They were
// made with Python, row by row from the leaves up to the root.
func knowns() (above, beside, first, last [63]int) {
	above = [63]int{
		1, 3, 1, 7, 5, 3, 5, 15, 9, 11, 9, 7, 13, 11, 13, 31,
		17, 19, 17, 23, 21, 19, 21, 15, 25, 27, 25, 23, 29, 27, 29, -1,
		33, 35, 33, 39, 37, 35, 37, 47, 41, 43, 41, 39, 45, 43, 45, 31,
		49, 51, 49, 55, 53, 51, 53, 47, 57, 59, 57, 55, 61, 59, 61,
	}
	beside = [63]int{
		2, 5, 0, 11, 6, 1, 4, 23, 10, 13, 8, 3, 14, 9, 12, 47,
		18, 21, 16, 27, 22, 17, 20, 7, 26, 29, 24, 19, 30, 25, 28, -1,
		34, 37, 32, 43, 38, 33, 36, 55, 42, 45, 40, 35, 46, 41, 44, 15,
		50, 53, 48, 59, 54, 49, 52, 39, 58, 61, 56, 51, 62, 57, 60,
	}
	first = [63]int{
		0, 0, 1, 0, 2, 2, 3, 0, 4, 4, 5, 4, 6, 6, 7, 0,
		8, 8, 9, 8, 10, 10, 11, 8, 12, 12, 13, 12, 14, 14, 15, 0,
		16, 16, 17, 16, 18, 18, 19, 16, 20, 20, 21, 20, 22, 22, 23, 16,
		24, 24, 25, 24, 26, 26, 27, 24, 28, 28, 29, 28, 30, 30, 31,
	}
	last = [63]int{
		0, 1, 1, 3, 2, 3, 3, 7, 4, 5, 5, 7, 6, 7, 7, 15,
		8, 9, 9, 11, 10, 11, 11, 15, 12, 13, 13, 15, 14, 15, 15, 31,
		16, 17, 17, 19, 18, 19, 19, 23, 20, 21, 21, 23, 22, 23, 23, 31,
		24, 25, 25, 27, 26, 27, 27, 31, 28, 29, 29, 31, 30, 31, 31,
	}
	return above, beside, first, last
}

// P18.2, P18.3: a tree with 32 leaves, as another program has it.
func TestKnown(t *testing.T) {
	above, beside, first, last := knowns()
	for node := range 63 {
		if node == 31 {
			checkNowhere(t, node, 32)
		} else {
			checkAbove(t, node, 32, above[node], true)
			checkBeside(t, node, 32, beside[node], true)
		}
		checkUnder(t, node, first[node], last[node])
	}
	checkPath(t, 0, 32, 1, 3, 7, 15, 31)
	checkPath(t, 5, 32, 9, 11, 7, 15, 31)
	checkPath(t, 13, 32, 25, 27, 23, 15, 31)
	checkPath(t, 21, 32, 41, 43, 39, 47, 31)
	checkPath(t, 31, 32, 61, 59, 55, 47, 31)
}

// P18.1: which numbers of leaves a tree can have, and how many nodes it has.
func TestSizes(t *testing.T) {
	want := map[int]int{1: 1, 2: 3, 4: 7, 8: 15, 16: 31, 32: 63}
	for n := -1; n <= 65; n++ {
		width, fits := want[n]
		if shape.Fits(n) != fits || shape.Width(n) != width {
			t.Errorf("%d leaves: %v, %d nodes", n, shape.Fits(n), shape.Width(n))
		}
	}
	for _, n := range numbers() {
		checkSize(t, n)
	}
}

// P18.1: no greater power of two fits, nor a sum of it and a number that does,
// nor what is below 0.
func TestNoSizes(t *testing.T) {
	check := func(n int) {
		t.Helper()
		if shape.Fits(n) || shape.Width(n) != 0 {
			t.Errorf("%d leaves: %v, %d nodes", n, shape.Fits(n), shape.Width(n))
		}
	}
	for bit := 6; bit < 64; bit++ {
		check(1 << bit)
		check(-1 << bit)
		for _, n := range sizes() {
			check(1<<bit + n)
			check(-1<<bit + n)
			check(-1<<bit - n)
		}
	}
	for _, n := range sizes() {
		check(-n)
	}
	for _, n := range extremes() {
		check(n)
	}
}

// P18.1: a node's level is how many of its lowest bits are 1.
func TestLevels(t *testing.T) {
	count := map[int]int{}
	for node := range 63 {
		checkLevel(t, node, onesOf(node))
		count[shape.Level(node)]++
	}
	for level, want := range []int{32, 16, 8, 4, 2, 1} {
		if count[level] != want {
			t.Errorf("level %d: %d nodes", level, count[level])
		}
	}
	for _, node := range []int{-3, -2, -1, 63, 64, 65, 127, 128, 255, math.MinInt, math.MaxInt} {
		checkLevel(t, node, 0)
	}
}

// P18.1: a branch's kids are half the leaves below it away from it, and neither
// a leaf nor what is no node has any.
func TestKids(t *testing.T) {
	for node := 1; node < 63; node += 2 {
		half := 1 << (onesOf(node) - 1)
		checkLeft(t, node, node-half, true)
		checkRight(t, node, node+half, true)
	}
	for node := -2; node <= 64; node += 2 {
		checkLeft(t, node, 0, false)
		checkRight(t, node, 0, false)
	}
	for _, node := range []int{-3, -1, 63, 65, 127, math.MinInt, math.MinInt + 1, math.MaxInt - 1, math.MaxInt} {
		checkLeft(t, node, 0, false)
		checkRight(t, node, 0, false)
	}
}

// P18.1, P18.3: all that a node has in any tree, of nodes and of other numbers.
func TestPlaces(t *testing.T) {
	for _, node := range numbers() {
		checkPlace(t, node)
	}
	for node := -2; node <= 64; node++ {
		checkPlace(t, node)
	}
}

// P18.1: what a node has in any tree is the same in a small one as in the
// greatest one; its root is node n - 1, at whose level the tree has no other.
func TestSmallTrees(t *testing.T) {
	for _, n := range sizes() {
		for node, p := range tree(n) {
			checkLevel(t, node, p.height)
			checkUnder(t, node, p.first, p.last)
			if node%2 == 1 {
				checkLeft(t, node, p.left, true)
				checkRight(t, node, p.right, true)
			}
			if same := p.height == shape.Level(n-1); same != (node == n-1) {
				t.Errorf("%d leaves: node %d is at level %d, as the root is", n, node, p.height)
			}
		}
		checkUnder(t, n-1, 0, n-1)
	}
}

// P18.2: parents and siblings of all nodes of all trees, and of what is beside
// them.
func TestAboveAndBeside(t *testing.T) {
	for _, n := range sizes() {
		for node := -1; node <= 64; node++ {
			checkIn(t, node, n)
		}
		for _, node := range numbers() {
			checkIn(t, node, n)
		}
	}
}

// P18.2: roots, and nodes just outside a tree, have neither; all others have
// both.
func TestNeither(t *testing.T) {
	for _, n := range sizes() {
		for _, node := range []int{n - 1, -1, 2*n - 1, 2 * n, 2*n + 1, -2 * n, 63, 64, math.MinInt, math.MaxInt} {
			checkNowhere(t, node, n)
		}
		for _, node := range far() {
			checkNowhere(t, node, n)
		}
		for node := range 2*n - 1 {
			_, above := shape.Above(node, n)
			_, beside := shape.Beside(node, n)
			if want := node != n-1; above != want || beside != want {
				t.Errorf("node %d of a tree with %d leaves: %v, %v", node, n, above, beside)
			}
		}
	}
}

// wrongSizes are numbers of leaves that no tree can have.
func wrongSizes() []int {
	all := []int{-64, -33, -32, -16, -8, -4, -3, -2, -1, 0, 3, 5, 6, 7, 9, 12, 15, 17, 24, 31, 33, 48, 63, 64, 65, 128}
	return append(all, far()...)
}

// P18.2, P18.3: trees that can't be have no parents, siblings or paths.
func TestNoTrees(t *testing.T) {
	for _, n := range wrongSizes() {
		for node := -2; node <= 66; node++ {
			checkNowhere(t, node, n)
			checkPath(t, node, n)
		}
		for _, node := range append(extremes(), n-2, n-1, n, n/2, 2*n) {
			checkNowhere(t, node, n)
			checkPath(t, node, n)
		}
	}
}

// P18.1 to P18.3: any numbers of leaves and any nodes.
func TestAnyNodes(t *testing.T) {
	r := rand.New(rand.NewSource(18))
	for range 30000 {
		node, n := anyNumber(r), anyNumber(r)
		checkSize(t, n)
		checkPlace(t, node)
		checkIn(t, node, n)
		checkLeaf(t, node, n)
		checkIn(t, node, 1<<r.Intn(6))
		checkLeaf(t, node, 1<<r.Intn(6))
	}
}

// anyNumber is one of any size.
func anyNumber(r *rand.Rand) int {
	return int(r.Uint64()) >> r.Intn(64)
}

// P18.3: the paths of all leaves of all trees.
func TestPaths(t *testing.T) {
	for _, n := range sizes() {
		for leaf := -2; leaf <= 70; leaf++ {
			checkLeaf(t, leaf, n)
		}
		for leaf := range n {
			path := shape.Path(leaf, n)
			if len(path) != onesOf(n-1) || n > 1 && path[len(path)-1] != n-1 {
				t.Errorf("Path(%d, %d): %v", leaf, n, path)
			}
		}
	}
}

// P18.3: there is no path of a leaf that a tree hasn't, and a tree with one leaf
// has no branches.
func TestNoPaths(t *testing.T) {
	checkPath(t, 0, 1)
	for _, n := range sizes() {
		for _, leaf := range []int{-n, -2, -1, n, n + 1, 2*n - 1, 2 * n} {
			checkPath(t, leaf, n)
		}
		for _, leaf := range far() {
			checkPath(t, leaf, n)
		}
		for bit := 31; bit < 64; bit++ {
			checkPath(t, 1<<bit+n-1, n)
			checkPath(t, -1<<bit+n-1, n)
		}
	}
}

// P18.3: the leaves below a node are those whose node is as near to it as the
// kids of its kids are.
func TestUnder(t *testing.T) {
	for node := range 63 {
		first, last := shape.Under(node)
		reach := 1<<onesOf(node) - 1
		for leaf := range 32 {
			below := node-reach <= 2*leaf && 2*leaf <= node+reach
			if in := first <= leaf && leaf <= last; in != below {
				t.Errorf("Under(%d): got %d, %d; leaf %d", node, first, last, leaf)
			}
		}
	}
	for leaf := range 32 {
		checkUnder(t, 2*leaf, leaf, leaf)
	}
	for _, node := range far() {
		checkUnder(t, node, 0, -1)
	}
	for _, node := range []int{-3, -2, -1, 63, 64, 65} {
		checkUnder(t, node, 0, -1)
	}
}

// P18.1, P18.2: Above of a kid is its branch, Beside of the left kid is the
// right one, and the other way about.
func TestKidsAndAbove(t *testing.T) {
	for _, n := range sizes() {
		for node := 1; node < 2*n-1; node += 2 {
			left, isLeft := shape.Left(node)
			right, isRight := shape.Right(node)
			if !isLeft || !isRight {
				t.Errorf("node %d has no kids", node)
			}
			checkAbove(t, left, n, node, true)
			checkAbove(t, right, n, node, true)
			checkBeside(t, left, n, right, true)
			checkBeside(t, right, n, left, true)
		}
	}
}

// P18.1 to P18.3: below a node is what is below its kids.
func TestKidsAndUnder(t *testing.T) {
	for node := 1; node < 63; node += 2 {
		left, _ := shape.Left(node)
		right, _ := shape.Right(node)
		first, middle := shape.Under(left)
		after, last := shape.Under(right)
		checkUnder(t, node, first, last)
		if after != middle+1 || middle-first != last-after {
			t.Errorf("node %d: its kids have %d to %d and %d to %d", node, first, middle, after, last)
		}
		checkLevel(t, left, shape.Level(node)-1)
		checkLevel(t, right, shape.Level(node)-1)
	}
}

// climb are the nodes that Above yields, step by step from a leaf.
func climb(leaf, leaves int) []int {
	var nodes []int
	for node, ok := shape.Above(2*leaf, leaves); ok && len(nodes) < 9; node, ok = shape.Above(node, leaves) {
		nodes = append(nodes, node)
	}
	return nodes
}

// P18.2, P18.3: Above, step by step from a leaf, gives its path.
func TestPathIsAbove(t *testing.T) {
	for _, n := range sizes() {
		for leaf := range n {
			checkPath(t, leaf, n, climb(leaf, n)...)
			for i, node := range shape.Path(leaf, n) {
				checkLevel(t, node, i+1)
			}
		}
	}
}

// P18.2, P18.3: the siblings along a path have every other leaf below them, each
// once.
func TestSiblingsHoldAllOtherLeaves(t *testing.T) {
	for _, n := range sizes() {
		for leaf := range n {
			count := make([]int, n)
			for _, node := range append([]int{2 * leaf}, shape.Path(leaf, n)...) {
				beside, ok := shape.Beside(node, n)
				if ok != (node != n-1) {
					t.Errorf("Beside(%d, %d): %v", node, n, ok)
				}
				if !ok {
					continue
				}
				first, last := shape.Under(beside)
				for i := first; i <= last; i++ {
					count[i]++
				}
			}
			for i, times := range count {
				if times != 1 && i != leaf || times != 0 && i == leaf {
					t.Errorf("%d leaves, leaf %d: leaf %d is there %d times", n, leaf, i, times)
				}
			}
		}
	}
}

// P18.2, P18.3: the paths of two leaves share the branches that have both below
// them, and no others.
func TestPathsMeet(t *testing.T) {
	for _, n := range sizes() {
		for a := range n {
			for b := range n {
				for _, node := range shape.Path(a, n) {
					first, last := shape.Under(node)
					shared := slices.Contains(shape.Path(b, n), node)
					if both := first <= b && b <= last; shared != both || a < first || last < a {
						t.Errorf("%d leaves, paths of %d and %d: node %d has %d to %d", n, a, b, node, first, last)
					}
				}
			}
		}
	}
}

// spoil changes each number of a path and of its spare capacity.
func spoil(path []int) {
	path = path[:cap(path)]
	for i := range path {
		path[i] = ^path[i]
	}
}

// P18.3: a path that is changed afterwards changes no later one, nor one that
// was there before.
func TestPathsAreNewMemory(t *testing.T) {
	for _, n := range sizes() {
		for leaf := range n {
			want := pathOf(leaf, n)
			first, second := shape.Path(leaf, n), shape.Path(leaf, n)
			spoil(first)
			if !slices.Equal(second, want) {
				t.Errorf("Path(%d, %d): a changed path changed another: %v", leaf, n, second)
			}
			checkLeaf(t, leaf, n)
			_ = append(second, 99)
			_ = append(second[:0], 98, 97)
			checkLeaf(t, leaf, n)
			checkLeaf(t, n-1-leaf, n)
		}
	}
}

// P18.3: two paths that are there at once don't grow into each other.
func TestPathsGrowApart(t *testing.T) {
	a, b := shape.Path(3, 16), shape.Path(12, 16)
	a, b = append(a, 100, 101, 102), append(b, 200, 201, 202)
	if !slices.Equal(a, append(pathOf(3, 16), 100, 101, 102)) || !slices.Equal(b, append(pathOf(12, 16), 200, 201, 202)) {
		t.Errorf("got %v and %v", a, b)
	}
}

// P18.1 to P18.3: a result depends on its own arguments alone, not on calls
// before it.
func TestCallsAreApart(t *testing.T) {
	r := rand.New(rand.NewSource(183))
	for range 20000 {
		node, n := r.Intn(70)-3, r.Intn(40)-3
		switch r.Intn(4) {
		case 0:
			checkSize(t, n)
		case 1:
			checkPlace(t, node)
		case 2:
			checkIn(t, node, n)
		case 3:
			checkLeaf(t, node, n)
			spoil(shape.Path(node, n))
		}
	}
}

// P18.1, P18.3: any numbers of leaves, and any nodes.
func FuzzPlace(f *testing.F) {
	f.Add(31, 32)
	f.Add(-1, 33)
	f.Add(math.MinInt, math.MaxInt)
	f.Fuzz(func(t *testing.T, node, leaves int) {
		checkSize(t, leaves)
		checkPlace(t, node)
	})
}

// P18.2, P18.3: any nodes, or leaves, of any trees.
func FuzzIn(f *testing.F) {
	f.Add(5, 8)
	f.Add(62, 32)
	f.Add(0, 1)
	f.Add(math.MinInt, 4)
	f.Fuzz(func(t *testing.T, node, leaves int) {
		checkIn(t, node, leaves)
		checkIn(t, node, leaves&63)
		checkLeaf(t, node, leaves)
		checkLeaf(t, node, leaves&63)
	})
}
