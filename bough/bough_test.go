package bough_test

import (
	"math"
	"slices"
	"testing"

	"bevy/bough"
)

const maxLeaves = 64

// The chapter's words, told once more, as a tree of pointers.

// point is a node: where it lies in the row, its leaves from first to behind, and what stands around it.
type point struct {
	x, first, behind   int
	above, left, right *point
}

// grow makes the tree of n leaves from the place at on, below above, and puts all its nodes into row.
func grow(row []*point, above *point, at, n int) *point {
	p := &point{x: 2 * at, first: at, behind: at + n, above: above}
	if n > 1 {
		k := 1
		for 2*k < n {
			k *= 2
		}
		p.x = 2*(at+k) - 1
		p.left = grow(row, p, at, k)
		p.right = grow(row, p, at+k, n-k)
	}
	row[p.x] = p
	return p
}

// model is the row of nodes of a tree of n leaves, and its root.
func model(t *testing.T, n int) ([]*point, *point) {
	t.Helper()
	row := make([]*point, 2*n-1)
	root := grow(row, nil, 0, n)
	if slices.Contains(row, nil) {
		t.Fatalf("of %d leaves the model has no whole row", n)
	}
	return row, root
}

// number is where a node lies; -1 of none.
func (p *point) number() int {
	if p == nil {
		return -1
	}
	return p.x
}

func (p *point) beside() *point {
	if p.above == nil {
		return nil
	}
	if p.above.left == p {
		return p.above.right
	}
	return p.above.left
}

func (p *point) holds(leaf int) bool {
	if p.left == nil {
		return p.x == 2*leaf
	}
	return p.left.holds(leaf) || p.right.holds(leaf)
}

func (p *point) direct() []int {
	var list []int
	for q := p.above; q != nil; q = q.above {
		list = append(list, q.x)
	}
	return list
}

// inAllTrees calls do with each tree there is.
func inAllTrees(t *testing.T, do func(n int, row []*point, root *point)) {
	t.Helper()
	for n := 1; n <= maxLeaves; n++ {
		row, root := model(t, n)
		do(n, row, root)
	}
}

// noTrees are numbers of leaves of which there is no tree: some come out as one that is, once they are doubled or cut to fewer bits.
func noTrees() []int {
	return []int{0, -1, -2, -64, 65, 66, 127, 128, 129, 256 + 5, 1<<16 + 5, 1<<31 - 1, 1<<32 + 5, 1 << 62, 1<<62 + 5, 1<<63 - 1,
		math.MinInt, math.MinInt + 1, math.MinInt + 5, math.MaxInt - 1}
}

// noNodes are numbers of no node of a tree of n leaves.
func noNodes(n int) []int {
	return []int{-1, -2, -3, 2*n - 1, 2 * n, 2*n + 1, 127, 128, 256, 257, 1 << 16, 1 << 31, 1 << 32, 1<<32 + 1, 1 << 62, 1<<62 + 1,
		math.MinInt, math.MinInt + 1, math.MaxInt, math.MaxInt - 1}
}

// noLeaves are numbers of no leaf of a tree of n leaves: 1 << 62 and the ones near math.MinInt are something else once they are doubled.
func noLeaves(n int) []int {
	return []int{-1, -2, -64, n, n + 1, 2 * n, 64, 65, 128, 256, 1 << 16, 1 << 31, 1 << 32, 1 << 62, 1<<62 + 1,
		math.MinInt, math.MinInt + 1, math.MinInt + 2, math.MaxInt, math.MaxInt - 1}
}

// wantNoNode demands that all that is asked of a node says that there is none.
func wantNoNode(t *testing.T, n, x int) {
	t.Helper()
	for name, f := range map[string]func(n, x int) int{"Left": bough.Left, "Right": bough.Right, "Above": bough.Above, "Beside": bough.Beside} {
		if got := f(n, x); got != -1 {
			t.Errorf("%s(%d, %d) = %d", name, n, x, got)
		}
	}
	if a, b := bough.Leaves(n, x); a != 0 || b != 0 {
		t.Errorf("Leaves(%d, %d) = %d, %d", n, x, a, b)
	}
	for _, leaf := range append(noLeaves(3), 0, 1, 2, x, x/2) {
		if bough.Holds(n, x, leaf) {
			t.Errorf("Holds(%d, %d, %d)", n, x, leaf)
		}
	}
}

// wantNoLeaf demands that all that is asked of a leaf says that there is none.
func wantNoLeaf(t *testing.T, n, leaf int) {
	t.Helper()
	if list := bough.Direct(n, leaf); len(list) != 0 {
		t.Errorf("Direct(%d, %d) = %v", n, leaf, list)
	}
	for _, other := range []int{0, 1, n - 1, n, leaf, -1, 63} {
		if got := bough.Common(n, leaf, other); got != -1 {
			t.Errorf("Common(%d, %d, %d) = %d", n, leaf, other, got)
		}
		if got := bough.Common(n, other, leaf); got != -1 {
			t.Errorf("Common(%d, %d, %d) = %d", n, other, leaf, got)
		}
	}
}

// The chapter's example.

func TestExample(t *testing.T) {
	if got := bough.Root(5); got != 7 {
		t.Errorf("Root(5) = %d", got)
	}
	if l, r := bough.Left(5, 7), bough.Right(5, 7); l != 3 || r != 8 {
		t.Errorf("below 7 stand %d and %d", l, r)
	}
	if a, b := bough.Leaves(5, 8); a != 4 || b != 5 {
		t.Errorf("8 isn't the leaf 4: %d, %d", a, b)
	}
	if got := bough.Direct(5, 2); !slices.Equal(got, []int{5, 3, 7}) {
		t.Errorf("Direct(5, 2) = %v", got)
	}
	if got := bough.Common(5, 0, 3); got != 3 {
		t.Errorf("Common(5, 0, 3) = %d", got)
	}
}

// Some trees, told by hand.

func TestTreeOfOneLeaf(t *testing.T) {
	if got := bough.Root(1); got != 0 {
		t.Errorf("Root(1) = %d", got)
	}
	for name, f := range map[string]func(n, x int) int{"Left": bough.Left, "Right": bough.Right, "Above": bough.Above, "Beside": bough.Beside} {
		if got := f(1, 0); got != -1 {
			t.Errorf("%s(1, 0) = %d", name, got)
		}
	}
	if list := bough.Direct(1, 0); len(list) != 0 {
		t.Errorf("Direct(1, 0) = %v", list)
	}
	if got := bough.Common(1, 0, 0); got != 0 {
		t.Errorf("Common(1, 0, 0) = %d", got)
	}
	if a, b := bough.Leaves(1, 0); a != 0 || b != 1 {
		t.Errorf("Leaves(1, 0) = %d, %d", a, b)
	}
	if !bough.Holds(1, 0, 0) || bough.Holds(1, 0, 1) {
		t.Errorf("the leaf holds otherwise")
	}
}

func TestTreeOfElevenLeaves(t *testing.T) {
	// Eight leaves below 7; then two below 17, and one, below 19.
	aboves := []int{1, 3, 1, 7, 5, 3, 5, 15, 9, 11, 9, 7, 13, 11, 13, -1, 17, 19, 17, 15, 19}
	for x, want := range aboves {
		if got := bough.Above(11, x); got != want {
			t.Errorf("Above(11, %d) = %d, want %d", x, got, want)
		}
	}
	besides := []int{2, 5, 0, 11, 6, 1, 4, 19, 10, 13, 8, 3, 14, 9, 12, -1, 18, 20, 16, 7, 17}
	for x, want := range besides {
		if got := bough.Beside(11, x); got != want {
			t.Errorf("Beside(11, %d) = %d, want %d", x, got, want)
		}
	}
	if got := bough.Direct(11, 10); !slices.Equal(got, []int{19, 15}) {
		t.Errorf("Direct(11, 10) = %v", got)
	}
	if a, b := bough.Leaves(11, 19); a != 8 || b != 11 {
		t.Errorf("Leaves(11, 19) = %d, %d", a, b)
	}
	if got := bough.Common(11, 10, 8); got != 19 {
		t.Errorf("Common(11, 10, 8) = %d", got)
	}
}

// Promise 7.1: Root, Left, Right, Above, Beside.

func TestNodes(t *testing.T) {
	inAllTrees(t, func(n int, row []*point, root *point) {
		if got := bough.Root(n); got != root.x {
			t.Errorf("Root(%d) = %d, want %d", n, got, root.x)
		}
		for x, p := range row {
			if got, want := bough.Left(n, x), p.left.number(); got != want {
				t.Errorf("Left(%d, %d) = %d, want %d", n, x, got, want)
			}
			if got, want := bough.Right(n, x), p.right.number(); got != want {
				t.Errorf("Right(%d, %d) = %d, want %d", n, x, got, want)
			}
			if got, want := bough.Above(n, x), p.above.number(); got != want {
				t.Errorf("Above(%d, %d) = %d, want %d", n, x, got, want)
			}
			if got, want := bough.Beside(n, x), p.beside().number(); got != want {
				t.Errorf("Beside(%d, %d) = %d, want %d", n, x, got, want)
			}
		}
	})
}

func TestNodesThatAreNot(t *testing.T) {
	for n := 1; n <= maxLeaves; n++ {
		for _, x := range noNodes(n) {
			wantNoNode(t, n, x)
		}
	}
}

func TestTreesThatAreNot(t *testing.T) {
	for _, n := range noTrees() {
		if got := bough.Root(n); got != -1 {
			t.Errorf("Root(%d) = %d", n, got)
		}
		for _, x := range append(noNodes(n), 0, 1, 2, 3, 63, 126, n, n-1, 2*n-2) {
			wantNoNode(t, n, x)
		}
		for _, leaf := range append(noLeaves(n), 0, 1, 2, 63, n-1, n/2) {
			wantNoLeaf(t, n, leaf)
		}
	}
}

// Promise 7.2: Direct, Common.

func TestDirect(t *testing.T) {
	inAllTrees(t, func(n int, row []*point, root *point) {
		for leaf := range n {
			if got, want := bough.Direct(n, leaf), row[2*leaf].direct(); !slices.Equal(got, want) {
				t.Errorf("Direct(%d, %d) = %v, want %v", n, leaf, got, want)
			}
		}
	})
}

func TestDirectIsNewMemory(t *testing.T) {
	for _, n := range []int{2, 5, 33, 64} {
		want := bough.Direct(n, 1)
		one, two := bough.Direct(n, 1), bough.Direct(n, 1)
		for i := range one[:cap(one)] {
			one[:cap(one)][i] = -7
		}
		if !slices.Equal(two, want) || slices.Contains(two[:cap(two)], -7) || !slices.Equal(bough.Direct(n, 1), want) {
			t.Errorf("of %d leaves two answers share memory", n)
		}
	}
}

func TestCommon(t *testing.T) {
	inAllTrees(t, func(n int, row []*point, root *point) {
		for a := range n {
			for b := range n {
				p := row[2*a]
				for !p.holds(b) {
					p = p.above
				}
				if got := bough.Common(n, a, b); got != p.x {
					t.Errorf("Common(%d, %d, %d) = %d, want %d", n, a, b, got, p.x)
				}
			}
		}
	})
}

func TestLeavesThatAreNot(t *testing.T) {
	for n := 1; n <= maxLeaves; n++ {
		for _, leaf := range noLeaves(n) {
			wantNoLeaf(t, n, leaf)
		}
	}
}

// Promise 7.3: Leaves, Holds.

func TestLeaves(t *testing.T) {
	inAllTrees(t, func(n int, row []*point, root *point) {
		for x, p := range row {
			if a, b := bough.Leaves(n, x); a != p.first || b != p.behind {
				t.Errorf("Leaves(%d, %d) = %d, %d, want %d, %d", n, x, a, b, p.first, p.behind)
			}
		}
	})
}

func TestHolds(t *testing.T) {
	inAllTrees(t, func(n int, row []*point, root *point) {
		for x, p := range row {
			for leaf := range n {
				if got := bough.Holds(n, x, leaf); got != p.holds(leaf) {
					t.Errorf("Holds(%d, %d, %d) = %t", n, x, leaf, got)
				}
			}
			for _, leaf := range noLeaves(n) {
				if bough.Holds(n, x, leaf) {
					t.Errorf("Holds(%d, %d, %d), and there is no such leaf", n, x, leaf)
				}
			}
		}
	})
}

// Promise 7.4: what holds.

// reached counts, by its calls alone, how often one comes to each node from x down.
func reached(n, x int, count []int) {
	count[x]++
	if left := bough.Left(n, x); left >= 0 {
		reached(n, left, count)
		reached(n, bough.Right(n, x), count)
	}
}

func TestEachNodeIsReachedOnce(t *testing.T) {
	for n := 1; n <= maxLeaves; n++ {
		count := make([]int, 2*n-1)
		reached(n, bough.Root(n), count)
		for x, times := range count {
			if times != 1 {
				t.Errorf("of %d leaves the node %d is reached %d times", n, x, times)
			}
		}
	}
}

func TestOneLeafMoreLeavesLeftSidesAsTheyWere(t *testing.T) {
	for n := 1; n < maxLeaves; n++ {
		for x := 1; x <= 2*n-2; x += 2 {
			a, b := bough.Leaves(n, bough.Left(n, x))
			c, d := bough.Leaves(n+1, bough.Left(n+1, x))
			if a != c || b != d || a == b {
				t.Errorf("on the left of %d stand the leaves %d to %d of %d, %d to %d of %d", x, a, b, n, c, d, n+1)
			}
		}
	}
}

func TestSidesFitTogether(t *testing.T) {
	for n := 1; n <= maxLeaves; n++ {
		for x := 1; x <= 2*n-2; x += 2 {
			left, right := bough.Left(n, x), bough.Right(n, x)
			if bough.Above(n, left) != x || bough.Above(n, right) != x || bough.Beside(n, left) != right || bough.Beside(n, right) != left {
				t.Errorf("of %d leaves the node %d isn't above both its sides", n, x)
			}
			first, behind := bough.Leaves(n, x)
			a, b := bough.Leaves(n, left)
			c, d := bough.Leaves(n, right)
			if a != first || b != c || d != behind || b-a < d-c || 2*b != x+1 {
				t.Errorf("of %d leaves the node %d parts %d to %d into %d to %d, %d to %d", n, x, first, behind, a, b, c, d)
			}
		}
	}
}

func FuzzAll(f *testing.F) {
	f.Add(5, 7, 2, 3)
	f.Add(64, 126, 63, 0)
	f.Add(65, 0, 64, 1)
	f.Add(math.MinInt, math.MinInt, math.MinInt, math.MaxInt)
	f.Add(3, math.MinInt, math.MinInt, math.MinInt+1)
	f.Fuzz(func(t *testing.T, n, x, a, b int) {
		tree := n >= 1 && n <= maxLeaves
		if !tree || x < 0 || x > 2*n-2 {
			wantNoNode(t, n, x)
		}
		if !tree || a < 0 || a >= n {
			wantNoLeaf(t, n, a)
		}
		if got := bough.Common(n, a, b); got != bough.Common(n, b, a) || got >= 0 && (!bough.Holds(n, got, a) || !bough.Holds(n, got, b)) {
			t.Errorf("Common(%d, %d, %d) = %d", n, a, b, got)
		}
		for _, over := range bough.Direct(n, a) {
			if !bough.Holds(n, over, a) {
				t.Errorf("Direct(%d, %d) has %d", n, a, over)
			}
		}
	})
}
