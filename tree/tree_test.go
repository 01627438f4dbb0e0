package tree_test

import (
	"math"
	"slices"
	"testing"

	"bevy/api"
	"bevy/bough"
	"bevy/sha"
	"bevy/tree"
)

// wantWrong demands that a tree isn't right, and that all calls say so.
func wantWrong(t *testing.T, what string, x api.Tree) {
	t.Helper()
	wantKept(t, x, func(x api.Tree) {
		if tree.Right(x) {
			t.Errorf("%s: right", what)
		}
		for _, n := range append(noNames(), 1, 2, 3, 4, 5, 6, 7, 8, 9, 10, 11, 12, 13, 33, 34, 64) {
			if got := tree.Place(x, n); got != -1 {
				t.Errorf("%s: Place(%d) = %d", what, n, got)
			}
			if got := tree.Resolve(x, n); len(got) != 0 {
				t.Errorf("%s: Resolve(%d) = %v", what, n, got)
			}
			if got := tree.HashAt(x, n); got != (api.Hash{}) {
				t.Errorf("%s: HashAt(%d) = %x", what, n, got)
			}
			wantRefused(t, what, x, n, api.ErrArg)
			if y, at, e := tree.Add(x, leafOf(n)); !isNone(y) || at != 0 || e != api.ErrArg {
				t.Errorf("%s: Add(%d) = %v, %d, %d", what, n, y, at, e)
			}
		}
		if got := tree.Names(x); len(got) != 0 {
			t.Errorf("%s: Names = %v", what, got)
		}
		if got := tree.Hash(x); got != sha.Sum("none") {
			t.Errorf("%s: Hash = %x", what, got)
		}
		if got := tree.Pack(x); got != "" {
			t.Errorf("%s: Pack = %x", what, got)
		}
	})
}

// wantRefused demands an error of all that is done to a leaf at a place; the error counts ahead of keys that are too many.
func wantRefused(t *testing.T, what string, x api.Tree, place int, want api.Errno) {
	t.Helper()
	if y, e := tree.Renew(x, place, key(1)); !isNone(y) || e != want {
		t.Errorf("%s: Renew(%d) = %v, %d", what, place, y, e)
	}
	if y, e := tree.Remove(x, place); !isNone(y) || e != want {
		t.Errorf("%s: Remove(%d) = %v, %d", what, place, y, e)
	}
	for many := range 8 {
		if y, e := tree.Path(x, place, key(1), keysFrom(2, many)); !isNone(y) || e != want {
			t.Errorf("%s: Path(%d) with %d keys = %v, %d", what, place, many, y, e)
		}
	}
}

// The chapter's example.

func TestExample(t *testing.T) {
	var x api.Tree
	for i, name := range []int{5, 2, 9} {
		y, at, e := tree.Add(x, api.Leaf{Name: name})
		if at != i || e != api.OK {
			t.Fatalf("Add(%d) at %d, %d", name, at, e)
		}
		x = y
	}
	x, e := tree.Remove(x, 1)
	if e != api.OK || len(x.Leaves) != 3 {
		t.Fatalf("Remove(1) = %v, %d", x, e)
	}
	x, at, e := tree.Add(x, api.Leaf{Name: 7})
	if at != 1 || e != api.OK {
		t.Fatalf("Add(7) at %d, %d", at, e)
	}
	x, e = tree.Remove(x, 2)
	if want := (api.Tree{Leaves: []api.Leaf{{Name: 5}, {Name: 7}}, Parents: []api.Parent{{}}}); !alike(x, want) || e != api.OK {
		t.Errorf("Remove(2) = %v, %d", x, e)
	}
}

// Promise 8.1: Right, Place, Names, Resolve.

func TestRightTrees(t *testing.T) {
	x, m := mixed()
	wantTree(t, x, m)
	wantTree(t, api.Tree{}, empty())
	wantTree(t, api.Tree{Leaves: []api.Leaf{}, Parents: []api.Parent{}}, empty())
	for n := 1; n <= maxLeaves; n++ {
		x, m := full(n)
		if !tree.Right(x) {
			t.Errorf("%d leaves aren't right", n)
		}
		wantNames(t, x, m)
	}
}

// What a tree may be, though no call makes it so.
func TestRightTreesOfAnyKind(t *testing.T) {
	for what, change := range map[string]func(x *api.Tree){
		"a node that is Set, of noughts":           func(x *api.Tree) { x.Parents[2] = api.Parent{Set: true} },
		"a node that is Set, with noughts above":   func(x *api.Tree) { x.Parents[2] = api.Parent{Set: true, Pub: key(1)} },
		"all loose":                                func(x *api.Tree) { x.Parents[3].Loose = []int{0, 1, 2, 3, 5, 6} },
		"the last one loose":                       func(x *api.Tree) { x.Parents[3].Loose = []int{6} },
		"the first one loose":                      func(x *api.Tree) { x.Parents[0].Loose = []int{0} },
		"loose on the right alone":                 func(x *api.Tree) { x.Parents[5].Loose = []int{6} },
		"lists of nothing":                         func(x *api.Tree) { x.Parents[2].Loose, x.Parents[5].Loose = []int{}, []int{} },
		"a leaf of noughts but its name":           func(x *api.Tree) { x.Leaves[3] = api.Leaf{Name: 4} },
		"two leaves with one key":                  func(x *api.Tree) { x.Leaves[3].Pub = x.Leaves[0].Pub },
		"a node that is Set over blank ones alone": func(x *api.Tree) { x.Leaves[5], x.Parents[4] = api.Leaf{}, api.Parent{Set: true} },
		"blank leaves ahead": func(x *api.Tree) {
			x.Leaves[0], x.Leaves[2], x.Parents[1].Loose, x.Parents[3].Loose = api.Leaf{}, api.Leaf{}, nil, nil
		},
	} {
		x, _ := mixed()
		change(&x)
		if !tree.Right(x) || tree.Pack(x) == "" {
			t.Errorf("%s: not right", what)
		}
	}
}

func TestTreesOfAWrongSize(t *testing.T) {
	x, _ := full(64)
	x.Leaves = append(x.Leaves, leafOf(65))
	wantWrong(t, "65 leaves, 63 parents", x)
	x.Parents = append(x.Parents, api.Parent{})
	wantWrong(t, "65 leaves", x)
	x.Leaves[0], x.Leaves[64].Name = api.Leaf{}, 1
	wantWrong(t, "65 leaves, one of them blank", x)
	for _, n := range []int{0, 1, 2, 3, 7, 64} {
		x, _ := full(n)
		more := api.Tree{Leaves: x.Leaves, Parents: append(slices.Clone(x.Parents), api.Parent{})}
		wantWrong(t, "a parent too many", more)
		if n >= 2 {
			wantWrong(t, "a parent too few", api.Tree{Leaves: x.Leaves, Parents: x.Parents[:n-2]})
		}
		if n >= 3 {
			wantWrong(t, "no parents", api.Tree{Leaves: x.Leaves})
			wantWrong(t, "no leaves", api.Tree{Parents: x.Parents})
		}
	}
	wantWrong(t, "one blank leaf", api.Tree{Leaves: []api.Leaf{{}}})
	wantWrong(t, "a great many leaves", api.Tree{Leaves: make([]api.Leaf, 1<<16), Parents: make([]api.Parent, 1<<16-1)})
}

func TestWrongLeaves(t *testing.T) {
	for what, change := range map[string]func(x *api.Tree){
		"the last leaf is blank":           func(x *api.Tree) { x.Leaves[6] = api.Leaf{} },
		"the last two leaves are blank":    func(x *api.Tree) { x.Leaves[5], x.Leaves[6] = api.Leaf{}, api.Leaf{} },
		"the last leaf has just no name":   func(x *api.Tree) { x.Leaves[6].Name = 0 },
		"a blank leaf with a key":          func(x *api.Tree) { x.Leaves[4].Pub[31] = 1 },
		"a blank leaf with a check key":    func(x *api.Tree) { x.Leaves[4].Verify[0] = 1 },
		"a blank leaf with what is above":  func(x *api.Tree) { x.Leaves[4].Above[15] = 1 },
		"a member's leaf has just no name": func(x *api.Tree) { x.Leaves[3].Name = 0 },
		"two alike, one behind the other":  func(x *api.Tree) { x.Leaves[1].Name = 5 },
		"two alike, far from each other":   func(x *api.Tree) { x.Leaves[6].Name = 5 },
		"two of the greatest name":         func(x *api.Tree) { x.Leaves[6].Name = 64 },
	} {
		x, _ := mixed()
		change(&x)
		wantWrong(t, what, x)
	}
	for _, name := range noNames() {
		x, _ := mixed()
		x.Leaves[3].Name = name
		wantWrong(t, "a name that is none", x)
	}
}

func TestWrongParents(t *testing.T) {
	for what, change := range map[string]func(x *api.Tree){
		"a blank one with a key":             func(x *api.Tree) { x.Parents[2].Pub[31] = 1 },
		"a blank one with what is above":     func(x *api.Tree) { x.Parents[4].Above[0] = 1 },
		"a blank one with somebody loose":    func(x *api.Tree) { x.Parents[2].Loose = []int{2} },
		"one that just isn't Set any more":   func(x *api.Tree) { x.Parents[5].Set = false },
		"loose ones that fall":               func(x *api.Tree) { x.Parents[1].Loose = []int{2, 1} },
		"loose ones that stand twice":        func(x *api.Tree) { x.Parents[1].Loose = []int{1, 1} },
		"loose ones that rise and fall":      func(x *api.Tree) { x.Parents[3].Loose = []int{0, 1, 3, 2} },
		"the first loose one comes again":    func(x *api.Tree) { x.Parents[3].Loose = []int{0, 1, 0} },
		"a blank leaf is loose":              func(x *api.Tree) { x.Parents[3].Loose = []int{1, 4} },
		"a blank leaf is loose first":        func(x *api.Tree) { x.Parents[5].Loose = []int{4, 5} },
		"right behind what is below":         func(x *api.Tree) { x.Parents[1].Loose = []int{5} },
		"far behind what is below":           func(x *api.Tree) { x.Parents[0].Loose = []int{0, 6} },
		"right behind what is below it":      func(x *api.Tree) { x.Parents[0].Loose = []int{2} },
		"right ahead of what is below":       func(x *api.Tree) { x.Parents[5].Loose = []int{3} },
		"ahead of what is below":             func(x *api.Tree) { x.Parents[5].Loose = []int{0, 5} },
		"a place that is none":               func(x *api.Tree) { x.Parents[3].Loose = []int{7} },
		"a place that is a node's":           func(x *api.Tree) { x.Parents[3].Loose = []int{1, 12} },
		"a place below nought":               func(x *api.Tree) { x.Parents[3].Loose = []int{-1} },
		"the least place":                    func(x *api.Tree) { x.Parents[3].Loose = []int{math.MinInt} },
		"the greatest place":                 func(x *api.Tree) { x.Parents[3].Loose = []int{math.MaxInt} },
		"the greatest place, and one behind": func(x *api.Tree) { x.Parents[3].Loose = []int{math.MaxInt, math.MinInt} },
		"a great many":                       func(x *api.Tree) { x.Parents[3].Loose = make([]int, 1<<16) },
	} {
		x, _ := mixed()
		change(&x)
		wantWrong(t, what, x)
	}
}

func TestPlaceOfNoName(t *testing.T) {
	x, _ := mixed()
	for _, name := range append(noNames(), 1, 2, 7, 9, 63) {
		if got := tree.Place(x, name); got != -1 {
			t.Errorf("Place(%d) = %d", name, got)
		}
		if got := tree.Place(api.Tree{}, name); got != -1 {
			t.Errorf("Place(%d) in a tree without leaves = %d", name, got)
		}
	}
}

func TestResolve(t *testing.T) {
	x, _ := mixed()
	for node, want := range map[int][]int{
		0: {0}, 2: {2}, 8: nil, 12: {12},
		1: {1, 2}, 5: {4, 6}, 9: {10}, 11: {11}, 3: {3, 2, 4}, 7: {7, 2, 4},
	} {
		if got := tree.Resolve(x, node); !slices.Equal(got, want) {
			t.Errorf("Resolve(%d) = %v, want %v", node, got, want)
		}
	}
	// Without the keys further up the nodes below come to light.
	x.Parents[3], x.Parents[1] = api.Parent{}, api.Parent{}
	if got := tree.Resolve(x, 7); !slices.Equal(got, []int{1, 2, 4, 6, 11}) {
		t.Errorf("Resolve(7) = %v", got)
	}
}

func TestNodesThatAreNot(t *testing.T) {
	x, _ := mixed()
	for n, x := range map[int]api.Tree{7: x, 0: {}} {
		for _, node := range noNodes(n) {
			if got := tree.Resolve(x, node); len(got) != 0 {
				t.Errorf("Resolve(%d) of %d leaves = %v", node, n, got)
			}
			if got := tree.HashAt(x, node); got != (api.Hash{}) {
				t.Errorf("HashAt(%d) of %d leaves = %x", node, n, got)
			}
		}
	}
	if tree.Resolve(api.Tree{}, 0) != nil || tree.HashAt(api.Tree{}, 0) != (api.Hash{}) {
		t.Errorf("a tree without leaves has the node 0")
	}
}

// Promise 8.2: Add, Renew, Remove.

func TestAddTakesTheLeafAsItIs(t *testing.T) {
	for _, leaf := range []api.Leaf{{Name: 1}, {Name: 64, Pub: key(1), Verify: key(2), Above: key(3)}, {Name: 7, Above: key(3)}} {
		x, at, e := tree.Add(api.Tree{}, leaf)
		if want := (api.Tree{Leaves: []api.Leaf{leaf}}); !alike(x, want) || at != 0 || e != api.OK {
			t.Errorf("Add(%v) = %v, %d, %d", leaf, x, at, e)
		}
	}
}

func TestAddLoosens(t *testing.T) {
	x, m := mixed()
	x, at, e := tree.Add(x, leafOf(10))
	if at != 4 || at != m.add(leafOf(10)) || e != api.OK {
		t.Errorf("Add at %d, %d", at, e)
	}
	for node, want := range map[int][]int{1: {1}, 3: {1, 2}, 5: nil, 7: {1, 2, 4}, 9: nil, 11: {4}} {
		if got := x.Parents[node/2].Loose; !slices.Equal(got, want) {
			t.Errorf("loose at %d: %v, want %v", node, got, want)
		}
	}
	x, at, e = tree.Add(x, leafOf(11))
	if at != 7 || at != m.add(leafOf(11)) || e != api.OK {
		t.Errorf("Add at %d, %d", at, e)
	}
	if got := x.Parents[5].Loose; !slices.Equal(got, []int{4, 7}) {
		t.Errorf("loose at 11: %v", got)
	}
	wantTree(t, x, m)
}

// A place comes in ahead of others, between them, and behind them.
func TestAddKeepsLooseRising(t *testing.T) {
	for place := range 7 {
		_, m := full(8)
		m.remove(place)
		m.climb(7, key(1), keysFrom(2, 3))
		for x, in := range m.nodes {
			first, behind := bough.Leaves(8, x)
			for other := first; other < behind; other++ {
				if other != place {
					in.loose[other] = true
				}
			}
		}
		x, at, e := tree.Add(m.tree(), leafOf(20))
		if at != place || at != m.add(leafOf(20)) || e != api.OK {
			t.Errorf("Add at %d, %d", at, e)
		}
		wantTree(t, x, m)
	}
}

func TestAddRefuses(t *testing.T) {
	x, m := mixed()
	for _, name := range noNames() {
		for _, x := range []api.Tree{x, {}} {
			if y, at, e := tree.Add(x, leafOf(name)); !isNone(y) || at != 0 || e != api.ErrArg {
				t.Errorf("Add(%d) = %v, %d, %d", name, y, at, e)
			}
		}
	}
	for _, name := range m.names() {
		if y, at, e := tree.Add(x, api.Leaf{Name: name, Pub: key(1)}); !isNone(y) || at != 0 || e != api.ErrThere {
			t.Errorf("Add(%d) = %v, %d, %d", name, y, at, e)
		}
	}
}

// Of 64 members there is no name that isn't one: whoever is added is there already.
func TestFullTree(t *testing.T) {
	x, m := api.Tree{}, empty()
	for name := maxLeaves; name >= 1; name-- {
		y, at, e := tree.Add(x, leafOf(name))
		if at != maxLeaves-name || at != m.add(leafOf(name)) || e != api.OK {
			t.Fatalf("Add(%d) at %d, %d", name, at, e)
		}
		x = y
	}
	wantTree(t, x, m)
	for name := 1; name <= maxLeaves; name++ {
		if y, at, e := tree.Add(x, leafOf(name)); !isNone(y) || at != 0 || e != api.ErrThere {
			t.Errorf("Add(%d) = %v, %d, %d", name, y, at, e)
		}
	}
	if _, _, e := tree.Add(x, leafOf(65)); e != api.ErrArg {
		t.Errorf("Add(65) = %d", e)
	}
	x, _ = tree.Remove(x, 40)
	m.remove(40)
	x, at, e := tree.Add(x, leafOf(24))
	if at != 40 || at != m.add(leafOf(24)) || e != api.OK {
		t.Errorf("Add(24) at %d, %d", at, e)
	}
	wantTree(t, x, m)
}

func TestRenew(t *testing.T) {
	for place := range 7 {
		x, m := mixed()
		if place == 4 {
			continue
		}
		y, e := tree.Renew(x, place, key(99))
		if e != api.OK || y.Leaves[place].Pub != key(99) || y.Leaves[place].Above != (api.Hash{}) || y.Leaves[place].Verify != x.Leaves[place].Verify {
			t.Errorf("Renew(%d) = %v, %d", place, y, e)
		}
		m.renew(place, key(99))
		wantTree(t, y, m)
	}
	x, _ := tree.Renew(api.Tree{Leaves: []api.Leaf{{Name: 3, Pub: key(1), Verify: key(2), Above: key(3)}}}, 0, key(4))
	if want := (api.Tree{Leaves: []api.Leaf{{Name: 3, Pub: key(4), Verify: key(2)}}}); !alike(x, want) {
		t.Errorf("Renew of the only leaf = %v", x)
	}
}

func TestRemove(t *testing.T) {
	for place := range 7 {
		x, m := mixed()
		if place == 4 {
			continue
		}
		y, e := tree.Remove(x, place)
		if e != api.OK {
			t.Errorf("Remove(%d) = %d", place, e)
		}
		m.remove(place)
		wantTree(t, y, m)
	}
}

func TestRemoveTakesAllBlankLeavesBehind(t *testing.T) {
	x, m := full(9)
	for _, c := range []struct{ place, left int }{{7, 9}, {6, 9}, {4, 9}, {8, 6}, {0, 6}, {5, 4}, {2, 4}, {1, 4}, {3, 0}} {
		y, e := tree.Remove(x, c.place)
		if e != api.OK || len(y.Leaves) != c.left || len(y.Parents) != max(0, c.left-1) {
			t.Fatalf("Remove(%d) leaves %d leaves and %d parents, %d", c.place, len(y.Leaves), len(y.Parents), e)
		}
		m.remove(c.place)
		wantTree(t, y, m)
		x = y
	}
}

// Where leaves go and come again, no key of theirs is left from before.
func TestWhatWasTakenAwayComesBlankAgain(t *testing.T) {
	x, m := full(6)
	for _, place := range []int{5, 4, 0} {
		keys := keysFrom(10*place, len(m.above(place)))
		x, _ = tree.Path(x, place, key(10*place+9), keys)
		m.climb(place, key(10*place+9), keys)
	}
	for _, place := range []int{4, 5} {
		x, _ = tree.Remove(x, place)
		m.remove(place)
	}
	wantTree(t, x, m)
	for _, name := range []int{20, 21, 22} {
		x, _, _ = tree.Add(x, leafOf(name))
		m.add(leafOf(name))
		wantTree(t, x, m)
	}
}

func TestPlacesThatAreNot(t *testing.T) {
	x, _ := mixed()
	for _, place := range []int{4, -1, -2, 7, 8, 12, 64, 1 << 16, 1 << 32, 1<<32 + 3, 1 << 62, 1<<62 + 3, math.MinInt, math.MinInt + 3, math.MaxInt} {
		wantRefused(t, "no member", x, place, api.ErrNone)
	}
	for _, place := range []int{0, -1, 1, math.MinInt, math.MaxInt} {
		wantRefused(t, "no leaves", api.Tree{}, place, api.ErrNone)
	}
}

// Promise 8.3: Path.

func TestPathOfTheOnlyLeaf(t *testing.T) {
	x := api.Tree{Leaves: []api.Leaf{{Name: 3, Pub: key(1), Verify: key(2), Above: key(3)}}}
	y, e := tree.Path(x, 0, key(4), nil)
	if want := (api.Tree{Leaves: []api.Leaf{{Name: 3, Pub: key(4), Verify: key(2)}}}); !alike(y, want) || e != api.OK {
		t.Errorf("Path = %v, %d", y, e)
	}
}

func TestPathOfThreeLeaves(t *testing.T) {
	x, _ := full(3)
	y, e := tree.Path(x, 1, key(1), keysFrom(2, 2))
	if e != api.OK {
		t.Fatalf("Path = %d", e)
	}
	noughts := text(api.Hash{})
	leaf := func(name int) string {
		return text(digest("leaf\x01", num(name), text(key(1000+name)), text(key(2000+name)), noughts))
	}
	low := digest("above", text(key(3)), noughts, leaf(3))
	want, _ := full(3)
	want.Parents[1] = api.Parent{Set: true, Pub: key(3)}
	want.Parents[0] = api.Parent{Set: true, Pub: key(2), Above: low}
	want.Leaves[1].Pub, want.Leaves[1].Above = key(1), digest("above", text(key(2)), text(low), leaf(1))
	if !alike(y, want) {
		t.Errorf("Path = %v, want %v", y, want)
	}
}

// Who stood loose does so no more, and what stands beside the way is as it was.
func TestPathOfEachLeaf(t *testing.T) {
	for place := range 7 {
		x, m := mixed()
		if place == 4 {
			continue
		}
		up := bough.Direct(7, place)
		keys := keysFrom(70, len(up))
		y, e := tree.Path(x, place, key(69), keys)
		if e != api.OK {
			t.Fatalf("Path(%d) = %d", place, e)
		}
		for i, node := range up {
			if p := y.Parents[node/2]; !p.Set || p.Pub != keys[i] || len(p.Loose) != 0 {
				t.Errorf("Path(%d): the node %d is %v", place, node, p)
			}
		}
		m.climb(place, key(69), keys)
		wantTree(t, y, m)
	}
}

func TestPathInTreesOfAllSizes(t *testing.T) {
	for n := 1; n <= maxLeaves; n++ {
		x, m := full(n)
		for _, place := range []int{0, n / 2, n - 1} {
			up := bough.Direct(n, place)
			y, e := tree.Path(x, place, key(n), keysFrom(place, len(up)))
			if e != api.OK {
				t.Fatalf("Path(%d) of %d leaves = %d", place, n, e)
			}
			m.climb(place, key(n), keysFrom(place, len(up)))
			if !alike(y, m.tree()) {
				t.Errorf("Path(%d) of %d leaves isn't the chapter's", place, n)
			}
			x = y
		}
	}
}

func TestPathOfTooManyOrTooFewKeys(t *testing.T) {
	for _, n := range []int{1, 2, 5, 7, 64} {
		x, _ := full(n)
		for place := range n {
			want := len(bough.Direct(n, place))
			for _, many := range []int{want - 1, want + 1, 0, 63, 64, 1 << 16} {
				if many < 0 || many == want {
					continue
				}
				if y, e := tree.Path(x, place, key(1), keysFrom(2, many)); !isNone(y) || e != api.ErrPath {
					t.Errorf("Path(%d) of %d leaves with %d keys = %v, %d", place, n, many, y, e)
				}
			}
		}
	}
}

// Promise 8.4: Hash, HashAt.

func TestHashOfTwoLeaves(t *testing.T) {
	x := api.Tree{
		Leaves:  []api.Leaf{{Name: 64, Pub: key(1), Verify: key(2), Above: key(3)}, {Name: 2, Pub: key(4), Verify: key(5), Above: key(6)}},
		Parents: []api.Parent{{Set: true, Pub: key(7), Above: key(8), Loose: []int{0, 1}}},
	}
	left := digest("leaf\x01\x40\x40", text(key(1)), text(key(2)), text(key(3)))
	right := digest("leaf\x01\x02", text(key(4)), text(key(5)), text(key(6)))
	root := digest("node\x01", text(key(7)), text(key(8)), "\x02\x00\x01", text(left), text(right))
	for node, want := range []api.Hash{left, root, right} {
		if got := tree.HashAt(x, node); got != want {
			t.Errorf("HashAt(%d) = %x, want %x", node, got, want)
		}
	}
	if got := tree.Hash(x); got != root {
		t.Errorf("Hash = %x, want %x", got, root)
	}
	x.Parents[0] = api.Parent{}
	if got, want := tree.Hash(x), digest("node\x00", text(left), text(right)); got != want {
		t.Errorf("Hash under a blank root = %x, want %x", got, want)
	}
}

func TestHashOfABlankLeaf(t *testing.T) {
	x, _ := mixed()
	if got, want := tree.HashAt(x, 8), digest("leaf\x00"); got != want {
		t.Errorf("HashAt(8) = %x, want %x", got, want)
	}
}

func TestHashWithoutLeaves(t *testing.T) {
	if got := tree.Hash(api.Tree{}); got != digest("none") {
		t.Errorf("Hash = %x", got)
	}
}

// Whatever is changed in a tree, its hash is another, and so is its Pack.
func TestHashTellsTreesApart(t *testing.T) {
	first, _ := mixed()
	met := map[api.Hash]string{tree.Hash(first): "as it was"}
	for what, change := range map[string]func(x *api.Tree){
		"a key":                func(x *api.Tree) { x.Leaves[6].Pub[31]++ },
		"a check key":          func(x *api.Tree) { x.Leaves[0].Verify[0]++ },
		"a leaf's above":       func(x *api.Tree) { x.Leaves[3].Above[5]++ },
		"a name":               func(x *api.Tree) { x.Leaves[3].Name = 40 },
		"two names":            func(x *api.Tree) { x.Leaves[0].Name, x.Leaves[1].Name = 33, 5 },
		"a leaf":               func(x *api.Tree) { x.Leaves[3] = api.Leaf{} },
		"a leaf's place":       func(x *api.Tree) { x.Leaves[3], x.Leaves[4] = x.Leaves[4], x.Leaves[3] },
		"the root's key":       func(x *api.Tree) { x.Parents[3].Pub[0]++ },
		"a node's above":       func(x *api.Tree) { x.Parents[0].Above[31]++ },
		"a node":               func(x *api.Tree) { x.Parents[5] = api.Parent{} },
		"who is loose":         func(x *api.Tree) { x.Parents[1].Loose = []int{1, 3} },
		"nobody is loose":      func(x *api.Tree) { x.Parents[1].Loose = nil },
		"two nodes":            func(x *api.Tree) { x.Parents[0], x.Parents[2] = api.Parent{}, x.Parents[5] },
		"a node that is noted": func(x *api.Tree) { x.Parents[2] = api.Parent{Set: true} },
	} {
		x, _ := mixed()
		change(&x)
		if !tree.Right(x) {
			t.Errorf("%s: not right", what)
		}
		if other, ok := met[tree.Hash(x)]; ok {
			t.Errorf("%s: the hash is that of %s", what, other)
		}
		met[tree.Hash(x)] = what
	}
}

// Promise 8.5: Pack, Unpack.

func TestPackOfTwoLeaves(t *testing.T) {
	x := api.Tree{
		Leaves:  []api.Leaf{{}, {}, {Name: 64, Pub: key(1), Verify: key(2), Above: key(3)}},
		Parents: []api.Parent{{}, {Set: true, Pub: key(7), Above: key(8), Loose: []int{2}}},
	}
	want := "\x03\x00\x00\x01\x40\x40" + text(key(1)) + text(key(2)) + text(key(3)) + "\x00\x01" + text(key(7)) + text(key(8)) + "\x01\x02"
	if got := tree.Pack(x); got != want {
		t.Errorf("Pack = %x, want %x", got, want)
	}
	if got, e := tree.Unpack(want); !alike(got, x) || e != api.OK {
		t.Errorf("Unpack = %v, %d", got, e)
	}
	if got := tree.Pack(api.Tree{}); got != "\x00" {
		t.Errorf("Pack without leaves = %x", got)
	}
	if got, e := tree.Unpack("\x00"); !isNone(got) || e != api.OK {
		t.Errorf("Unpack without leaves = %v, %d", got, e)
	}
}

// wantUnread demands an error of bytes.
func wantUnread(t *testing.T, what, s string, want api.Errno) {
	t.Helper()
	if x, e := tree.Unpack(s); !isNone(x) || e != want {
		t.Errorf("%s: Unpack(%x) = %v, %d, want %d", what, s, x, e, want)
	}
}

func TestUnpackWithoutAnEnd(t *testing.T) {
	x, _ := mixed()
	all := tree.Pack(x)
	for n := range len(all) {
		wantUnread(t, "cut", all[:n], api.ErrShort)
	}
	wantUnread(t, "a tail", all+"\x00", api.ErrTail)
	wantUnread(t, "a tail behind nothing", "\x00\x00", api.ErrTail)
	wantUnread(t, "twice", all+all, api.ErrTail)
}

// The first of several errors is the reader's, then a tail's; whether it is a tree is asked at last.
func TestUnpackAtItsEdges(t *testing.T) {
	keys := text(key(1)) + text(key(2)) + text(key(3))
	leaf := "\x01\x05" + keys
	two := "\x02" + leaf + "\x01\x06" + keys
	set := "\x01" + text(key(4)) + text(key(5))
	places := ""
	for place := range 64 {
		places += num(place)
	}
	for _, c := range []struct {
		what, bytes string
		want        api.Errno
	}{
		{"64 leaves that aren't there", "\x40\x40", api.ErrShort},
		{"65 leaves", "\x40\x41", api.ErrLong},
		{"a great many leaves", "\xff\xff\xff\xff\xff\xff\xff\xff" + keys, api.ErrLong},
		{"a number in two bytes", "\x40\x01" + leaf, api.ErrForm},
		{"neither flag", "\x01\x02" + leaf[1:], api.ErrForm},
		{"a blank leaf", "\x01\x00", api.ErrForm},
		{"a blank leaf and a tail", "\x01\x00\x00", api.ErrTail},
		{"blank leaves, and a parent that isn't there", "\x02\x00\x00", api.ErrShort},
		{"two blank leaves", "\x02\x00\x00\x00", api.ErrForm},
		{"the last leaf is blank", "\x02" + leaf + "\x00\x00", api.ErrForm},
		{"no name", "\x01\x01\x00" + keys, api.ErrForm},
		{"no name and a tail", "\x01\x01\x00" + keys + "\x00", api.ErrTail},
		{"no name and no end", "\x01\x01\x00" + keys[1:], api.ErrShort},
		{"no name and nothing else", "\x02\x01\x00" + text(api.Hash{}) + text(api.Hash{}) + text(api.Hash{}) + leaf + "\x00", api.ErrForm},
		{"no name behind a leaf", "\x02" + leaf + "\x01\x00" + keys + "\x00", api.ErrForm},
		{"the greatest name", "\x01\x01\x40\x40" + keys, api.OK},
		{"a name that is none", "\x01\x01\x40\x41" + keys, api.ErrLong},
		{"a name in too many bytes", "\x01\x01\x40\x05" + keys, api.ErrForm},
		{"two alike", "\x02" + leaf + leaf + "\x00", api.ErrForm},
		{"two alike and a tail", "\x02" + leaf + leaf + "\x00\x01", api.ErrTail},
		{"two alike and a parent's flag that is none", "\x02" + leaf + leaf + "\x02", api.ErrForm},
		{"two", two + "\x00", api.OK},
		{"two, all loose", two + set + "\x02\x00\x01", api.OK},
		{"loose ones that fall", two + set + "\x02\x01\x00", api.ErrForm},
		{"one that is loose twice", two + set + "\x02\x01\x01", api.ErrForm},
		{"a loose one that isn't there", two + set + "\x01\x02", api.ErrForm},
		{"a loose one that isn't there and a tail", two + set + "\x01\x02\x00", api.ErrTail},
		{"the greatest loose one", two + set + "\x01\x40\x40", api.ErrForm},
		{"a greater loose one", two + set + "\x01\x40\x41", api.ErrLong},
		{"as many loose ones as can be read", two + set + "\x40\x40" + places, api.ErrForm},
		{"more loose ones", two + set + "\x40\x41" + places + "\x00", api.ErrLong},
		{"loose ones that fall, then too great a one", two + set + "\x03\x01\x00\x40\x41", api.ErrLong},
		{"a blank leaf is loose", "\x03" + leaf + "\x00\x01\x06" + keys + "\x00" + set + "\x01\x01", api.ErrForm},
		{"a leaf beside is loose", "\x03" + leaf + "\x01\x07" + keys + "\x01\x06" + keys + set + "\x01\x02\x00", api.ErrForm},
	} {
		if c.want != api.OK {
			wantUnread(t, c.what, c.bytes, c.want)
		} else if x, e := tree.Unpack(c.bytes); e != api.OK || tree.Pack(x) != c.bytes {
			t.Errorf("%s: Unpack = %v, %d", c.what, x, e)
		}
	}
}

// Of bytes with another byte in one place nothing comes but a tree whose bytes they are.
func TestUnpackOfChangedBytes(t *testing.T) {
	x, _ := mixed()
	all := tree.Pack(x)
	for i := range all {
		for _, by := range []byte{1, 2, 3, 0x40, 0x80, 0xff} {
			s := []byte(all)
			s[i] ^= by
			wantOneForm(t, string(s))
		}
	}
}

// wantOneForm demands that what is unpacked is right, and that these are its bytes.
func wantOneForm(t *testing.T, s string) {
	t.Helper()
	x, e := tree.Unpack(s)
	if e != api.OK && !isNone(x) || e == api.OK && (!tree.Right(x) || tree.Pack(x) != s) {
		t.Errorf("Unpack(%x) = %v, %d", s, x, e)
	}
	if e != api.OK && !slices.Contains([]api.Errno{api.ErrShort, api.ErrForm, api.ErrLong, api.ErrTail}, e) {
		t.Errorf("Unpack(%x): error %d", s, e)
	}
}

// Promise 8.6: what holds.

// wantHeld demands of the nodes to which each node resolves that they hold each member below it, and each once, but those that are loose by themselves.
func wantHeld(t *testing.T, x api.Tree) {
	t.Helper()
	n := len(x.Leaves)
	for node := range max(0, 2*n-1) {
		list := tree.Resolve(x, node)
		for place, leaf := range x.Leaves {
			if leaf.Name == 0 {
				continue
			}
			held, loose := holding(x, list, place)
			want := 0
			if bough.Holds(n, node, place) {
				want = 1 + loose
			}
			if held != want || loose > 1 || loose == 1 && !slices.Contains(list, 2*place) {
				t.Errorf("Resolve(%d) = %v holds the leaf %d %d times, want %d: %s", node, list, place, held, want, told(x))
			}
		}
	}
}

// holding counts those of some nodes that hold a leaf, and those at which it is loose.
func holding(x api.Tree, nodes []int, place int) (held, loose int) {
	for _, y := range nodes {
		if bough.Holds(len(x.Leaves), y, place) {
			held++
		}
		if y%2 == 1 && slices.Contains(x.Parents[y/2].Loose, place) {
			loose++
		}
	}
	return held, loose
}

func TestWalksInSmallTrees(t *testing.T) {
	for seed := range int64(12) {
		walk(t, seed, 100, 2+int(seed), func(x api.Tree, m *model) {
			wantTree(t, x, m)
			wantHeld(t, x)
		})
	}
}

func TestWalksInGreatTrees(t *testing.T) {
	many := int64(4)
	if testing.Short() {
		many = 1
	}
	for seed := range many {
		walk(t, 100+seed, 300, maxLeaves, func(x api.Tree, m *model) {
			if !alike(x, m.tree()) || !tree.Right(x) {
				t.Fatalf("the tree is\n%s, want\n%s", told(x), told(m.tree()))
			}
			if len(x.Leaves)%5 == 0 {
				wantTree(t, x, m)
				wantHeld(t, x)
			}
		})
	}
}

// Rules 3, 4 and 6: nothing is changed, nothing is shared, and what is asked twice is answered twice alike.

// mark writes a mark of its own into each list of a tree, spare room included, and answers whether one list has another one's.
func mark(x api.Tree) bool {
	loose := make([][]int, 0, len(x.Parents))
	for i := range x.Parents[:cap(x.Parents)] {
		loose = append(loose, x.Parents[:cap(x.Parents)][i].Loose)
	}
	for i := range x.Leaves[:cap(x.Leaves)] {
		x.Leaves[:cap(x.Leaves)][i] = leafOf(90)
	}
	for i := range x.Parents[:cap(x.Parents)] {
		x.Parents[:cap(x.Parents)][i] = api.Parent{Pub: key(90)}
	}
	shared := false
	for i, list := range loose {
		for j := range list[:cap(list)] {
			list[:cap(list)][j] = 1000 + i
		}
	}
	for i, list := range loose {
		shared = shared || slices.ContainsFunc(list[:cap(list)], func(n int) bool { return n != 1000+i })
	}
	return shared
}

// wantNew demands of a call that makes a tree that it is made of new memory.
func wantNew(t *testing.T, what string, make func(x api.Tree) (api.Tree, api.Errno)) {
	t.Helper()
	x, _ := mixed()
	wantKept(t, x, func(x api.Tree) {
		first, e := make(x)
		again, f := make(x)
		if e != api.OK || f != api.OK || !alike(first, again) {
			t.Fatalf("%s = %v, %d, and then %v, %d", what, first, e, again, f)
		}
		third, _ := make(x)
		if mark(first) {
			t.Errorf("%s: two lists of the answer share", what)
		}
		if !alike(again, third) {
			t.Errorf("%s: two answers share", what)
		}
	})
}

func TestTreesAreNewMemory(t *testing.T) {
	x, _ := mixed()
	all := tree.Pack(x)
	wantNew(t, "Unpack", func(api.Tree) (api.Tree, api.Errno) { return tree.Unpack(all) })
	wantNew(t, "Add", func(x api.Tree) (api.Tree, api.Errno) {
		y, _, e := tree.Add(x, leafOf(10))
		return y, e
	})
	wantNew(t, "Add behind all", func(x api.Tree) (api.Tree, api.Errno) {
		x = lent(x)
		x.Leaves[4] = leafOf(11)
		y, _, e := tree.Add(x, leafOf(10))
		return y, e
	})
	for _, place := range []int{0, 1, 3, 5, 6} {
		wantNew(t, "Renew", func(x api.Tree) (api.Tree, api.Errno) { return tree.Renew(x, place, key(1)) })
		wantNew(t, "Remove", func(x api.Tree) (api.Tree, api.Errno) { return tree.Remove(x, place) })
		wantNew(t, "Path", func(x api.Tree) (api.Tree, api.Errno) {
			return tree.Path(x, place, key(1), keysFrom(2, len(bough.Direct(7, place))))
		})
	}
}

func TestListsAreNewMemory(t *testing.T) {
	x, m := mixed()
	wantKept(t, x, func(x api.Tree) {
		for name, ask := range map[string]func() []int{
			"Names":              func() []int { return tree.Names(x) },
			"Resolve of a node":  func() []int { return tree.Resolve(x, 7) },
			"Resolve of a blank": func() []int { return tree.Resolve(x, 5) },
			"Resolve of a leaf":  func() []int { return tree.Resolve(x, 0) },
		} {
			first, again := ask(), ask()
			want := slices.Clone(again)
			for i := range first[:cap(first)] {
				first[:cap(first)][i] = 1 << 20
			}
			if !slices.Equal(again, want) || !slices.Equal(ask(), want) {
				t.Errorf("%s: two answers share", name)
			}
		}
	})
	wantTree(t, x, m)
}

func TestPathLeavesTheKeys(t *testing.T) {
	x, _ := mixed()
	keys := roomy(keysFrom(2, 3), key(77))
	y, e := tree.Path(x, 0, key(1), keys)
	if e != api.OK || !slices.Equal(keys[:cap(keys)], append(keysFrom(2, 3), key(77), key(77), key(77))) {
		t.Errorf("Path changes the keys: %x, %d", keys[:cap(keys)], e)
	}
	for i := range keys[:cap(keys)] {
		keys[:cap(keys)][i] = key(88)
	}
	if y.Parents[0].Pub != key(2) || y.Parents[1].Pub != key(3) || y.Parents[3].Pub != key(4) {
		t.Errorf("Path keeps the keys: %v", y)
	}
}

// treeOf is a tree of any bytes, right or not.
func treeOf(s []byte) api.Tree {
	next := func() int {
		if len(s) == 0 {
			return 0
		}
		b := int(int8(s[0]))
		s = s[1:]
		return b
	}
	var x api.Tree
	for range next() & 15 {
		leaf := api.Leaf{Name: next()}
		if leaf.Name != 0 || next()&3 == 3 {
			leaf.Pub = key(next())
		}
		x.Leaves = append(x.Leaves, leaf)
	}
	many := max(0, len(x.Leaves)-1)
	if next()&15 == 15 {
		many = next() & 15
	}
	for range many {
		var p api.Parent
		if p.Set = next()&1 == 1; p.Set || next()&7 == 7 {
			p.Pub = key(next())
			for range next() & 3 {
				p.Loose = append(p.Loose, next())
			}
		}
		x.Parents = append(x.Parents, p)
	}
	return x
}

// wantCalls does all there is to a tree, at a place, and demands what holds of each answer.
func wantCalls(t *testing.T, x api.Tree, place int) {
	t.Helper()
	right := tree.Right(x)
	wantKept(t, x, func(x api.Tree) {
		keys := keysFrom(1, len(bough.Direct(len(x.Leaves), place)))
		y, at, e := tree.Add(x, leafOf(place))
		if (e == api.OK) != (right && place >= 1 && place <= 64 && tree.Place(x, place) < 0) || e == api.OK && tree.Place(y, place) != at {
			t.Errorf("Add(%d) to %s = %s, %d, %d", place, told(x), told(y), at, e)
		}
		renewed, f := tree.Renew(x, place, key(1))
		removed, g := tree.Remove(x, place)
		climbed, h := tree.Path(x, place, key(1), keys)
		member := right && place >= 0 && place < len(x.Leaves) && x.Leaves[place].Name != 0
		if f != g || f != h || (f == api.OK) != member || (f == api.ErrArg) == right {
			t.Errorf("at %d in %s: errors %d, %d, %d", place, told(x), f, g, h)
		}
		for _, made := range []api.Tree{y, renewed, removed, climbed} {
			if !tree.Right(made) {
				t.Errorf("%s isn't right, of %s at %d", told(made), told(x), place)
			}
			if u, e := tree.Unpack(tree.Pack(made)); !alike(u, made) || e != api.OK {
				t.Errorf("Unpack = %s, %d, want %s", told(u), e, told(made))
			}
			wantHeld(t, made)
		}
		if (tree.Pack(x) != "") != right || (tree.HashAt(x, place) != (api.Hash{})) != (right && place >= 0 && place <= 2*len(x.Leaves)-2) {
			t.Errorf("Pack and HashAt of %s at %d", told(x), place)
		}
		tree.Resolve(x, place)
	})
}

func FuzzCalls(f *testing.F) {
	f.Add([]byte{3, 5, 0, 2, 0, 9, 0, 0, 1, 0, 1, 1, 0, 0}, 1)
	f.Add([]byte{4, 5, 0, 0, 0, 9, 0, 64, 1, 0, 1, 1, 1, 2, 0, 0}, 2)
	f.Add([]byte{2, 5, 0, 5, 0}, 0)
	f.Add([]byte{}, 1<<62+1)
	f.Fuzz(func(t *testing.T, s []byte, place int) { wantCalls(t, treeOf(s), place) })
}

func FuzzUnpack(f *testing.F) {
	x, _ := mixed()
	f.Add(tree.Pack(x))
	f.Add("\x00")
	f.Add("\x01\x00")
	f.Add("\x40\x41")
	f.Fuzz(func(t *testing.T, s string) { wantOneForm(t, s) })
}
