package climb_test

import (
	"math/rand"
	"slices"
	"strings"
	"testing"

	"bevy/api"
	"bevy/book"
	"bevy/climb"
	"bevy/prim"
	"bevy/sha"
	"bevy/tree"
)

const about = "about"

// mixedKeys are the keys that who stands at a place of mixed has.
func mixedKeys(place int) []api.Key {
	nodes := map[int][]int{0: {1, 3, 7}, 3: {3, 7}, 5: {11, 7}, 6: {11, 7}}
	names := []int{5, 33, 34, 4, 0, 64, 3}
	keys := []api.Key{{Node: 2 * place, Priv: leafKey(names[place])}}
	for _, x := range nodes[place] {
		keys = append(keys, api.Key{Node: x, Priv: key(x)})
	}
	return keys
}

// The chapter's example.

func TestExample(t *testing.T) {
	x := members(2)
	g, e := grow(t, nil, x, 0, key(1), about, nil)
	if e != api.OK || len(g.Rungs) != 1 || len(g.Rungs[0].Wraps) != 1 || len(g.Rungs[0].Wraps[0]) != 80 {
		t.Fatalf("Grow: %s", told(g, e))
	}
	h, e := follow(t, nil, x, 0, g.Tree.Leaves[0].Pub, g.Rungs, about, nil, 1, []api.Key{{Node: 2, Priv: leafKey(2)}})
	if e != api.OK || h.Commit != g.Commit || tree.Hash(h.Tree) != tree.Hash(g.Tree) {
		t.Errorf("Follow: %s", told(h, e))
	}
}

// Promise 9.1: Grow.

// wantGrown demands of a climb what the chapter says of it, and that just that is noted.
func wantGrown(t *testing.T, what string, x api.Tree, place int, once api.Hash, about string, fresh []int) climb.Grown {
	t.Helper()
	b := book.New()
	g, e := grow(t, b, x, place, once, about, fresh)
	want, facts := grownOf(x, place, once, about, fresh)
	if bad := unlike(g, want); bad != "" || e != api.OK {
		t.Errorf("%s: Grow at %d: %s isn't right\n%s, want\n%s", what, place, bad, told(g, e), told(want, api.OK))
	}
	wantFacts(t, what, b, facts)
	return g
}

func TestGrowOfTheOnlyLeaf(t *testing.T) {
	g := wantGrown(t, "one leaf", members(1), 0, key(1), about, nil)
	leaf := derived(key(1), "leaf", "")
	if len(g.Rungs) != 0 || len(g.Secrets) != 0 || g.Commit != derived(leaf, "commit", "") {
		t.Errorf("Grow: %s", told(g, api.OK))
	}
	if want := []api.Key{{Node: 0, Priv: derived(leaf, "node", "")}}; !slices.Equal(g.Keys, want) {
		t.Errorf("Keys = %x", g.Keys)
	}
	if g.Tree.Leaves[0].Pub != pubOf(derived(leaf, "node", "")) {
		t.Errorf("the leaf's key isn't that of its secret")
	}
}

func TestGrowOfTwoLeaves(t *testing.T) {
	g := wantGrown(t, "two leaves", members(2), 1, key(1), about, nil)
	leaf := derived(key(1), "leaf", "")
	top := derived(leaf, "path", "")
	if !slices.Equal(g.Secrets, []api.Hash{top}) || g.Commit != derived(top, "commit", "") {
		t.Errorf("Secrets = %x, Commit = %x", g.Secrets, g.Commit)
	}
	want := []api.Key{{Node: 1, Priv: derived(top, "node", "")}, {Node: 2, Priv: derived(leaf, "node", "")}}
	if !slices.Equal(g.Keys, want) {
		t.Errorf("Keys = %x, want %x", g.Keys, want)
	}
	wrap := prim.Wrap(nil, pubOf(leafKey(1)), derived(key(1), "wrap", "\x00\x00"), about, text(top))
	if g.Rungs[0].Pub != pubOf(derived(top, "node", "")) || !slices.Equal(g.Rungs[0].Wraps, []string{wrap}) {
		t.Errorf("another rung")
	}
}

func TestGrowOfFullTrees(t *testing.T) {
	for _, n := range []int{1, 2, 3, 4, 5, 6, 7, 8, 9, 16, 17, 33, 63, 64} {
		for place := range n {
			if n > 9 && place%7 != 0 && place < n-2 {
				continue
			}
			wantGrown(t, "full", members(n), place, key(place), about, nil)
		}
	}
}

// Beside a climb there may be more than there are leaves: nodes with all that stand below them loose.
func TestGrowBesideMany(t *testing.T) {
	x := members(64)
	for place := 32; place < 64; place += 2 {
		x.Parents[place] = api.Parent{Set: true, Pub: key(place), Loose: []int{place, place + 1}}
	}
	if g := wantGrown(t, "pairs", x, 0, key(2), about, nil); len(g.Rungs[5].Wraps) != 48 {
		t.Errorf("%d wraps at the root", len(g.Rungs[5].Wraps))
	}
	x.Parents[47] = api.Parent{Set: true, Pub: key(3)}
	for place := 32; place < 64; place++ {
		x.Parents[47].Loose = append(x.Parents[47].Loose, place)
	}
	if g := wantGrown(t, "all loose", x, 0, key(2), about, nil); len(g.Rungs[5].Wraps) != 33 {
		t.Errorf("%d wraps at the root", len(g.Rungs[5].Wraps))
	}
}

func TestGrowWithKeysAndBlanksAndLooseOnes(t *testing.T) {
	x := mixed()
	for place, want := range map[int][]int{0: {1, 2, 1}, 1: {1, 2, 1}, 2: {1, 2, 1}, 3: {1, 2, 1}, 5: {0, 1, 3}, 6: {1, 3}} {
		g := wantGrown(t, "mixed", x, place, key(place), about, nil)
		var wraps []int
		for _, rung := range g.Rungs {
			wraps = append(wraps, len(rung.Wraps))
		}
		if !slices.Equal(wraps, want) {
			t.Errorf("wraps at %d: %v, want %v", place, wraps, want)
		}
	}
}

// The nodes above a leaf don't rise, the keys do.
func TestGrowAnswersRisingKeysAndSecretsUpwards(t *testing.T) {
	g := wantGrown(t, "five leaves", members(5), 2, key(1), about, nil)
	var nodes []int
	for _, key := range g.Keys {
		nodes = append(nodes, key.Node)
	}
	if !slices.Equal(nodes, []int{3, 4, 5, 7}) {
		t.Errorf("keys of %v", nodes)
	}
	for i := 1; i < len(g.Secrets); i++ {
		if g.Secrets[i] != derived(g.Secrets[i-1], "path", "") {
			t.Errorf("the secret %d isn't made of the one below", i)
		}
	}
	for i, x := range []int{5, 3, 7} {
		at := slices.Index(nodes, x)
		if g.Keys[at].Priv != derived(g.Secrets[i], "node", "") || g.Rungs[i].Pub != pubOf(g.Keys[at].Priv) || g.Tree.Parents[x/2].Pub != g.Rungs[i].Pub {
			t.Errorf("the node %d has another key than its secret makes", x)
		}
	}
}

func TestGrowLeavesOutFreshLeaves(t *testing.T) {
	x := members(6)
	all := wantGrown(t, "none fresh", x, 0, key(1), about, nil)
	for _, fresh := range [][]int{{1}, {2}, {3}, {2, 3}, {3, 2}, {4, 5}, {1, 2, 3, 4, 5}, {0}, {2, 2, 2}, {0, 1, 2, 3, 4, 5, 6, 7}} {
		g := wantGrown(t, "fresh", x, 0, key(1), about, fresh)
		if unlike(climb.Grown{Tree: g.Tree, Secrets: g.Secrets, Keys: g.Keys, Commit: g.Commit}, climb.Grown{Tree: all.Tree, Secrets: all.Secrets, Keys: all.Keys, Commit: all.Commit}) != "" {
			t.Errorf("with %v as fresh ones more than the wraps is another", fresh)
		}
	}
	g := wantGrown(t, "fresh", x, 0, key(1), about, []int{2})
	if len(g.Rungs[1].Wraps) != 1 {
		t.Fatalf("%d wraps", len(g.Rungs[1].Wraps))
	}
	// It is the first one now, so it is made with other numbers.
	if g.Rungs[1].Wraps[0] != prim.Wrap(nil, pubOf(leafKey(4)), derived(key(1), "wrap", "\x01\x00"), about, text(g.Secrets[1])) {
		t.Errorf("the wrap behind the fresh one has another number than its place")
	}
}

// Only leaves are fresh: a node above isn't, nor is a place where nothing stands.
func TestGrowWithFreshOnesThatAreNone(t *testing.T) {
	x := mixed()
	want, _ := grow(t, nil, x, 6, key(1), about, nil)
	for _, place := range append(noPlaces(7), 3, 4, 0) { // 3 and 0 stand below a node that is Set
		g := wantGrown(t, "no fresh ones", x, 6, key(1), about, []int{place})
		if bad := unlike(g, want); bad != "" {
			t.Errorf("with %d as fresh another climb: %s", place, bad)
		}
	}
	for _, places := range [][]int{{1}, {2}, {1, 2}} {
		g := wantGrown(t, "loose ones that are fresh", x, 6, key(1), about, places)
		if len(g.Rungs[1].Wraps) != 3-len(places) {
			t.Errorf("with %v as fresh %d wraps", places, len(g.Rungs[1].Wraps))
		}
	}
}

func TestGrowAboutMuch(t *testing.T) {
	x := members(3)
	for _, n := range []int{0, 1, 1000, api.MaxText - 1, api.MaxText} {
		wantGrown(t, "about much", x, 1, key(1), strings.Repeat("a", n), nil)
	}
	for _, n := range []int{api.MaxText + 1, api.MaxText + 2, 2 * api.MaxText, 1 << 20} {
		long := strings.Repeat("a", n)
		for _, x := range []api.Tree{x, members(1)} {
			wantRefused(t, "about too much", api.ErrLong, func(b *book.Book) (climb.Grown, api.Errno) {
				return grow(t, b, x, 0, key(1), long, nil)
			})
		}
		wantRefused(t, "about too much, where there is no leaf", api.ErrNone, func(b *book.Book) (climb.Grown, api.Errno) {
			return grow(t, b, x, 3, key(1), long, nil)
		})
		wantRefused(t, "about too much, in no right tree", api.ErrArg, func(b *book.Book) (climb.Grown, api.Errno) {
			return grow(t, b, api.Tree{Parents: make([]api.Parent, 1)}, 0, key(1), long, nil)
		})
	}
}

func TestGrowRefuses(t *testing.T) {
	for what, x := range wrongTrees() {
		for place := range 9 {
			wantRefused(t, what, api.ErrArg, func(b *book.Book) (climb.Grown, api.Errno) {
				return grow(t, b, x, place-1, key(1), about, nil)
			})
		}
	}
	for n, x := range map[int]api.Tree{0: {}, 7: mixed(), 1: members(1), 64: members(64)} {
		places := noPlaces(n)
		if n == 7 {
			places = append(places, 4)
		}
		for _, place := range places {
			if place >= 0 && place < n && place != 4 {
				continue
			}
			wantRefused(t, "no leaf", api.ErrNone, func(b *book.Book) (climb.Grown, api.Errno) {
				return grow(t, b, x, place, key(1), about, nil)
			})
		}
	}
}

// Another secret, another text, another place: other wraps and other keys.
func TestGrowTellsApart(t *testing.T) {
	x := members(5)
	seen := map[api.Hash]string{}
	wraps := map[string]string{}
	for what, g := range map[string]climb.Grown{
		"at 0":            wantGrown(t, "at 0", x, 0, key(1), about, nil),
		"at 1, otherwise": wantGrown(t, "at 1", x, 1, key(2), about, nil),
		"at 0, otherwise": wantGrown(t, "at 0", x, 0, key(3), about, nil),
		"of noughts":      wantGrown(t, "at 0", x, 0, api.Hash{}, about, nil),
	} {
		for _, h := range append(g.Secrets, g.Commit) {
			if seen[h] != "" {
				t.Errorf("%s and %s share a secret", seen[h], what)
			}
			seen[h] = what
		}
		for _, rung := range g.Rungs {
			for _, wrap := range rung.Wraps {
				if wraps[wrap] != "" {
					t.Errorf("%s and %s share a wrap", wraps[wrap], what)
				}
				wraps[wrap] = what
			}
		}
	}
}

// Promise 9.2: Follow.

// wantFollowed demands that who stands at mine follows, and comes to what the chapter says.
func wantFollowed(t *testing.T, what string, x api.Tree, place int, g climb.Grown, fresh []int, mine int, keys []api.Key) climb.Grown {
	t.Helper()
	b := book.New()
	leaf := g.Tree.Leaves[place].Pub
	h, e := follow(t, b, x, place, leaf, g.Rungs, about, fresh, mine, keys)
	nodes, ahead := overOf(x, place, mine)
	want, facts := followedOf(x, place, leaf, g.Rungs, mine, g.Secrets[ahead], keys)
	if bad := unlike(h, want); bad != "" || e != api.OK || len(h.Secrets) != len(nodes) {
		t.Errorf("%s: Follow of %d at %d: %s isn't right\n%s, want\n%s", what, place, mine, bad, told(h, e), told(want, api.OK))
	}
	wantFacts(t, what, b, facts)
	if h.Commit != g.Commit || !alikeTrees(h.Tree, g.Tree) || !slices.Equal(h.Secrets, g.Secrets[ahead:]) {
		t.Errorf("%s: who follows %d at %d comes to something else", what, place, mine)
	}
	return h
}

func TestFollowInFullTrees(t *testing.T) {
	for _, n := range []int{2, 3, 4, 5, 6, 7, 8, 9, 33, 64} {
		x := members(n)
		for place := 0; place < n; place += 1 + n/8 {
			g := wantGrown(t, "full", x, place, key(place), about, nil)
			for mine := 0; mine < n; mine += 1 + n/16 {
				if mine != place {
					wantFollowed(t, "full", x, place, g, nil, mine, []api.Key{{Node: 2 * mine, Priv: leafKey(mine + 1)}})
				}
			}
		}
	}
}

func TestFollowWithKeysAndBlanksAndLooseOnes(t *testing.T) {
	x := mixed()
	for _, place := range []int{0, 1, 2, 3, 5, 6} {
		g := wantGrown(t, "mixed", x, place, key(place), about, nil)
		for _, mine := range []int{0, 1, 2, 3, 5, 6} {
			if mine != place {
				wantFollowed(t, "mixed", x, place, g, nil, mine, mixedKeys(mine))
			}
		}
	}
}

// What one has of nodes that a climb doesn't touch stays, what it makes anew goes.
func TestFollowKeepsWhatStillCounts(t *testing.T) {
	x := mixed()
	g, _ := grow(t, nil, x, 6, key(1), about, nil)
	mine := append(mixedKeys(0), api.Key{Node: 12, Priv: leafKey(3)}, api.Key{Node: 10, Priv: leafKey(64)}, api.Key{Node: 5, Priv: key(5)}, api.Key{Node: -1}, api.Key{Node: 13}, api.Key{Node: 1 << 62})
	h := wantFollowed(t, "mixed", x, 6, g, nil, 0, mine)
	var nodes []int
	for _, key := range h.Keys {
		nodes = append(nodes, key.Node)
	}
	// The climb's own leaf has another key now; nobody has one of the node 5, nor of what is no node.
	if !slices.Equal(nodes, []int{0, 1, 3, 7, 10}) {
		t.Errorf("keys of %v", nodes)
	}
	if h.Keys[3].Priv == key(7) {
		t.Errorf("the root's old key counts")
	}
}

func TestFollowRefusesTreesAndPlaces(t *testing.T) {
	g, _ := grow(t, nil, mixed(), 6, key(1), about, nil)
	call := func(x api.Tree, place, mine int, rungs []api.Rung) func(b *book.Book) (climb.Grown, api.Errno) {
		return func(b *book.Book) (climb.Grown, api.Errno) {
			return follow(t, b, x, place, g.Tree.Leaves[6].Pub, rungs, about, nil, mine, mixedKeys(0))
		}
	}
	for what, x := range wrongTrees() {
		wantRefused(t, what, api.ErrArg, call(x, 6, 0, g.Rungs))
		wantRefused(t, what, api.ErrArg, call(x, -1, 99, nil))
		wantRefused(t, what, api.ErrArg, call(x, 4, 4, nil))
	}
	x := mixed()
	for _, no := range append(noPlaces(7), 4) {
		wantRefused(t, "no leaf at place", api.ErrNone, call(x, no, 0, g.Rungs))
		wantRefused(t, "no leaf at mine", api.ErrNone, call(x, 6, no, g.Rungs))
		wantRefused(t, "no leaf at both", api.ErrNone, call(x, no, no, nil))
		wantRefused(t, "no leaves", api.ErrNone, call(api.Tree{}, no, 0, nil))
	}
	for _, place := range []int{0, 1, 2, 3, 5, 6} {
		wantRefused(t, "one's own climb", api.ErrArg, call(x, place, place, g.Rungs))
		wantRefused(t, "one's own climb, without rungs", api.ErrArg, call(x, place, place, nil))
	}
	wantRefused(t, "the only leaf's climb", api.ErrArg, call(members(1), 0, 0, nil))
}

func TestFollowRefusesPathsOfAnotherShape(t *testing.T) {
	x := mixed()
	g, _ := grow(t, nil, x, 0, key(1), about, nil)
	for what, change := range map[string]func(rungs []api.Rung) []api.Rung{
		"no rungs":                    func(r []api.Rung) []api.Rung { return nil },
		"a rung too few":              func(r []api.Rung) []api.Rung { return r[:2] },
		"the first rung away":         func(r []api.Rung) []api.Rung { return r[1:] },
		"a rung too many":             func(r []api.Rung) []api.Rung { return append(r, api.Rung{}) },
		"a rung twice":                func(r []api.Rung) []api.Rung { return append(r, r[2]) },
		"a great many rungs":          func(r []api.Rung) []api.Rung { return append(r, make([]api.Rung, 1<<10)...) },
		"no wraps at the lowest":      func(r []api.Rung) []api.Rung { r[0].Wraps = nil; return r },
		"a wrap too many there":       func(r []api.Rung) []api.Rung { r[0].Wraps = append(r[0].Wraps, ""); return r },
		"a wrap too few further up":   func(r []api.Rung) []api.Rung { r[1].Wraps = r[1].Wraps[:1]; return r },
		"a wrap too many further up":  func(r []api.Rung) []api.Rung { r[1].Wraps = append(r[1].Wraps, r[1].Wraps[0]); return r },
		"no wrap at the root":         func(r []api.Rung) []api.Rung { r[2].Wraps = []string{}; return r },
		"a great many at the root":    func(r []api.Rung) []api.Rung { r[2].Wraps = make([]string, 1<<10); return r },
		"two rungs in another order":  func(r []api.Rung) []api.Rung { r[0], r[1] = r[1], r[0]; return r },
		"a wrap of one at another":    func(r []api.Rung) []api.Rung { r[0].Wraps, r[1].Wraps = r[1].Wraps, r[0].Wraps; return r },
		"a wrap too many, and no key": func(r []api.Rung) []api.Rung { r[2] = api.Rung{Wraps: []string{"", ""}}; return r },
	} {
		for _, mine := range []int{1, 2, 3, 5, 6} {
			for _, keys := range [][]api.Key{nil, mixedKeys(mine)} {
				rungs := change(slices.Clone(g.Rungs))
				wantRefused(t, what, api.ErrPath, func(b *book.Book) (climb.Grown, api.Errno) {
					return follow(t, b, x, 0, g.Tree.Leaves[0].Pub, rungs, about, nil, mine, keys)
				})
			}
		}
	}
}

// The same fresh ones make the same shape; with others there is a wrap too many or too few.
func TestFollowWithFreshOnes(t *testing.T) {
	x := members(5)
	g := wantGrown(t, "fresh", x, 0, key(1), about, []int{2, 4})
	for _, mine := range []int{1, 3} {
		wantFollowed(t, "fresh", x, 0, g, []int{2, 4}, mine, []api.Key{{Node: 2 * mine, Priv: leafKey(mine + 1)}})
		wantFollowed(t, "fresh", x, 0, g, []int{4, 2, 2, -1, 77, 1<<62 + 1, -1 << 63}, mine, []api.Key{{Node: 2 * mine, Priv: leafKey(mine + 1)}})
		for _, fresh := range [][]int{nil, {2}, {4}, {2, 3, 4}, {1, 2, 4}, {1<<62 + 2, 4}} {
			wantRefused(t, "others as fresh", api.ErrPath, func(b *book.Book) (climb.Grown, api.Errno) {
				return follow(t, b, x, 0, key(1), g.Rungs, about, fresh, mine, []api.Key{{Node: 2 * mine, Priv: leafKey(mine + 1)}})
			})
		}
	}
	for _, mine := range []int{2, 4} {
		wantRefused(t, "who is fresh", api.ErrSpent, func(b *book.Book) (climb.Grown, api.Errno) {
			return follow(t, b, x, 0, key(1), g.Rungs, about, []int{2, 4}, mine, []api.Key{{Node: 2 * mine, Priv: leafKey(mine + 1)}})
		})
	}
}

func TestFollowWithoutAKey(t *testing.T) {
	x := mixed()
	g, _ := grow(t, nil, x, 6, key(1), about, nil) // beside the root are 3, 2, 4; beside 11 is 10
	for what, c := range map[string]struct {
		mine int
		keys []api.Key
	}{
		"no keys":                        {0, nil},
		"one's own leaf's, which isn't":  {0, mixedKeys(0)[:1]},
		"those of nodes further down":    {0, []api.Key{{Node: 0, Priv: leafKey(5)}, {Node: 1, Priv: key(1)}}},
		"those of the path":              {0, []api.Key{{Node: 7, Priv: key(7)}, {Node: 12, Priv: leafKey(3)}}},
		"that of another rung":           {0, []api.Key{{Node: 10, Priv: leafKey(64)}}},
		"that of another rung, for five": {5, []api.Key{{Node: 3, Priv: key(3)}, {Node: 2, Priv: leafKey(33)}}},
		"of no nodes":                    {0, []api.Key{{Node: -3, Priv: key(3)}, {Node: 13, Priv: key(3)}, {Node: 1 << 62, Priv: key(3)}, {Node: 3 - 1<<63, Priv: key(3)}}},
		"the place, not the node":        {1, []api.Key{{Node: 1, Priv: leafKey(33)}}},
	} {
		wantRefused(t, what, api.ErrSpent, func(b *book.Book) (climb.Grown, api.Errno) {
			return follow(t, b, x, 6, g.Tree.Leaves[6].Pub, g.Rungs, about, nil, c.mine, c.keys)
		})
	}
}

// A key counts by its node, not by whose it is: any of those beside opens the secret.
func TestFollowByWhicheverKeyOneHas(t *testing.T) {
	x := mixed()
	g, _ := grow(t, nil, x, 6, key(1), about, nil)
	for _, mine := range []int{0, 1, 2, 3} {
		wantFollowed(t, "the node's key", x, 6, g, nil, mine, []api.Key{{Node: 3, Priv: key(3)}})
		wantFollowed(t, "the first loose one's", x, 6, g, nil, mine, []api.Key{{Node: 2, Priv: leafKey(33)}})
		wantFollowed(t, "the second loose one's", x, 6, g, nil, mine, []api.Key{{Node: 4, Priv: leafKey(34)}})
	}
}

func TestFollowByTheFirstKeyThatCounts(t *testing.T) {
	x := mixed()
	g, _ := grow(t, nil, x, 6, key(1), about, nil)
	right, wrong := api.Key{Node: 3, Priv: key(3)}, api.Key{Node: 3, Priv: key(99)}
	loose, wrongLoose := api.Key{Node: 2, Priv: leafKey(33)}, api.Key{Node: 2, Priv: key(99)}
	for what, keys := range map[string][]api.Key{
		"the right one ahead":                 {right, wrong},
		"the first of those beside, behind":   {wrongLoose, right},
		"the same twice":                      {right, right, wrong},
		"others' ahead":                       {{Node: 7, Priv: key(99)}, {Node: 10, Priv: key(99)}, right},
		"a loose one's, the second one wrong": {loose, wrongLoose, {Node: 4, Priv: key(99)}},
	} {
		wantFollowed(t, what, x, 6, g, nil, 0, keys)
	}
	for what, keys := range map[string][]api.Key{
		"the wrong one ahead":            {wrong, right},
		"the wrong one alone":            {wrong},
		"the node's is wrong":            {loose, wrong},
		"the node's is wrong, and ahead": {wrong, loose},
		"a loose one's is wrong":         {wrongLoose, {Node: 4, Priv: leafKey(34)}},
		"of noughts":                     {{Node: 3}},
	} {
		wantRefused(t, what, api.ErrSeal, func(b *book.Book) (climb.Grown, api.Errno) {
			return follow(t, b, x, 6, g.Tree.Leaves[6].Pub, g.Rungs, about, nil, 0, keys)
		})
	}
}

// changed is g's rungs, with one rung changed.
func changed(g climb.Grown, at int, change func(rung *api.Rung)) []api.Rung {
	rungs := lentRungs(g.Rungs)
	change(&rungs[at])
	return rungs
}

func TestFollowOfBadWraps(t *testing.T) {
	x := mixed()
	g, _ := grow(t, nil, x, 6, key(1), about, nil)
	wrapOf := func(of string) string {
		return prim.Wrap(nil, pubOf(key(3)), key(5), about, of)
	}
	good := g.Rungs[1].Wraps[0]
	for what, c := range map[string]struct {
		wrap string
		want api.Errno
	}{
		"nothing":              {"", api.ErrShort},
		"one byte":             {"a", api.ErrShort},
		"47 bytes":             {good[:47], api.ErrShort},
		"48 bytes":             {good[:48], api.ErrSeal},
		"a byte too few":       {good[:79], api.ErrSeal},
		"a byte too many":      {good + "a", api.ErrSeal},
		"the most":             {strings.Repeat("a", 48+api.MaxText), api.ErrSeal},
		"more than the most":   {strings.Repeat("a", 49+api.MaxText), api.ErrLong},
		"of nothing":           {wrapOf(""), api.ErrForm},
		"of 31 bytes":          {wrapOf(text(g.Secrets[1])[:31]), api.ErrForm},
		"of 33 bytes":          {wrapOf(text(g.Secrets[1]) + "a"), api.ErrForm},
		"of 64 bytes":          {wrapOf(text(g.Secrets[1]) + text(g.Secrets[1])), api.ErrForm},
		"of the most":          {wrapOf(strings.Repeat("a", api.MaxText)), api.ErrForm},
		"of another secret":    {wrapOf(text(g.Secrets[0])), api.ErrPath},
		"of noughts":           {wrapOf(text(api.Hash{})), api.ErrPath},
		"of the secret itself": {wrapOf(text(g.Secrets[1])), api.OK},
		"for somebody else":    {g.Rungs[1].Wraps[1], api.ErrSeal},
		"about another text":   {prim.Wrap(nil, pubOf(key(3)), key(5), "other", text(g.Secrets[1])), api.ErrSeal},
	} {
		rungs := changed(g, 1, func(rung *api.Rung) { rung.Wraps[0] = c.wrap })
		call := func(b *book.Book) (climb.Grown, api.Errno) {
			return follow(t, b, x, 6, g.Tree.Leaves[6].Pub, rungs, about, nil, 3, mixedKeys(3))
		}
		if c.want != api.OK {
			wantRefused(t, what, c.want, call)
		} else if h, e := call(nil); e != api.OK || h.Commit != g.Commit || !alikeRungs(h.Rungs, rungs) {
			t.Errorf("%s: %s", what, told(h, e))
		}
	}
	// What is wrapped for others, further down or up, isn't looked at.
	rungs := changed(g, 1, func(rung *api.Rung) { rung.Wraps[1], rung.Wraps[2] = "", "b" })
	rungs[0].Wraps[0] = "c"
	if h, e := follow(t, nil, x, 6, g.Tree.Leaves[6].Pub, rungs, about, nil, 3, mixedKeys(3)); e != api.OK || h.Commit != g.Commit || !alikeRungs(h.Rungs, rungs) {
		t.Errorf("with bad wraps for others: %s", told(h, e))
	}
	for _, other := range []string{"", "About", about + "a", about[1:], strings.Repeat("a", api.MaxText+1)} {
		wantRefused(t, "about another text", api.ErrSeal, func(b *book.Book) (climb.Grown, api.Errno) {
			return follow(t, b, x, 6, g.Tree.Leaves[6].Pub, g.Rungs, other, nil, 3, mixedKeys(3))
		})
	}
}

// The keys of the rungs that one comes to know are looked at; of those further down, and of the leaf, one knows no secret.
func TestFollowOfRungsWithOtherKeys(t *testing.T) {
	x := members(8)
	g, _ := grow(t, nil, x, 0, key(1), about, nil)
	keysOf := func(mine int) []api.Key { return []api.Key{{Node: 2 * mine, Priv: leafKey(mine + 1)}} }
	for _, pub := range []api.Hash{{}, key(9), g.Rungs[0].Pub, g.Rungs[1].Pub, g.Rungs[2].Pub, g.Tree.Leaves[0].Pub} {
		for at := range 3 {
			if pub == g.Rungs[at].Pub {
				continue
			}
			rungs := changed(g, at, func(rung *api.Rung) { rung.Pub = pub })
			for mine, first := range map[int]int{1: 0, 2: 1, 3: 1, 4: 2, 7: 2} {
				call := func(b *book.Book) (climb.Grown, api.Errno) {
					return follow(t, b, x, 0, g.Tree.Leaves[0].Pub, rungs, about, nil, mine, keysOf(mine))
				}
				if at >= first {
					wantRefused(t, "another key", api.ErrPath, call)
					continue
				}
				h, e := call(nil)
				want, _ := followedOf(x, 0, g.Tree.Leaves[0].Pub, rungs, mine, g.Secrets[first], keysOf(mine))
				if bad := unlike(h, want); bad != "" || e != api.OK || h.Commit != g.Commit || alikeTrees(h.Tree, g.Tree) {
					t.Errorf("another key further down: %s, %s", bad, told(h, e))
				}
			}
		}
	}
	h, e := follow(t, nil, x, 0, key(9), g.Rungs, about, nil, 1, keysOf(1))
	want, _ := followedOf(x, 0, key(9), g.Rungs, 1, g.Secrets[0], keysOf(1))
	if bad := unlike(h, want); bad != "" || e != api.OK || h.Tree.Leaves[0].Pub != key(9) {
		t.Errorf("with another key of the leaf: %s, %s", bad, told(h, e))
	}
}

// A new key counts ahead of what one has of the node, even if that is the same node's key.
func TestFollowOfAClimbTwice(t *testing.T) {
	x := members(4)
	g, _ := grow(t, nil, x, 0, key(1), about, nil)
	h := wantFollowed(t, "once", x, 0, g, nil, 3, []api.Key{{Node: 6, Priv: leafKey(4)}})
	again := wantFollowed(t, "twice", x, 0, g, nil, 3, h.Keys)
	if !slices.Equal(h.Keys, again.Keys) {
		t.Errorf("the keys are others the second time")
	}
}

// Promise 9.3: Enter.

// wantEntered demands that who stands at mine enters, and comes to what the chapter says.
func wantEntered(t *testing.T, what string, place int, g climb.Grown, mine int, priv api.Hash) climb.Grown {
	t.Helper()
	b := book.New()
	_, ahead := overOf(g.Tree, place, mine)
	h, e := enter(t, b, g.Tree, place, mine, g.Secrets[ahead], priv)
	want, facts := enteredOf(g.Tree, place, mine, g.Secrets[ahead], priv)
	if bad := unlike(h, want); bad != "" || e != api.OK {
		t.Errorf("%s: Enter of %d at %d: %s isn't right\n%s, want\n%s", what, place, mine, bad, told(h, e), told(want, api.OK))
	}
	wantFacts(t, what, b, facts)
	if h.Commit != g.Commit || !slices.Equal(h.Secrets, g.Secrets[ahead:]) || len(h.Rungs) != 0 {
		t.Errorf("%s: who enters behind %d at %d comes to something else", what, place, mine)
	}
	return h
}

func TestEnterInFullTrees(t *testing.T) {
	for _, n := range []int{2, 3, 4, 5, 6, 7, 8, 9, 33, 64} {
		x := members(n)
		for place := 0; place < n; place += 1 + n/8 {
			g, _ := grow(t, nil, x, place, key(place), about, nil)
			for mine := 0; mine < n; mine += 1 + n/16 {
				if mine == place {
					continue
				}
				h := wantEntered(t, "full", place, g, mine, leafKey(mine+1))
				if len(h.Keys) != len(h.Secrets)+1 {
					t.Errorf("%d keys of %d secrets", len(h.Keys), len(h.Secrets))
				}
			}
		}
	}
}

func TestEnterWithKeysAndBlanksAndLooseOnes(t *testing.T) {
	x := mixed()
	names := []int{5, 33, 34, 4, 0, 64, 3}
	for _, place := range []int{0, 1, 2, 3, 5, 6} {
		g, _ := grow(t, nil, x, place, key(place), about, nil)
		for _, mine := range []int{0, 1, 2, 3, 5, 6} {
			if mine != place {
				wantEntered(t, "mixed", place, g, mine, leafKey(names[mine]))
			}
		}
	}
}

// A key that isn't that of the leaf isn't kept, and is no fault.
func TestEnterWithAnotherLeafKey(t *testing.T) {
	g, _ := grow(t, nil, members(5), 0, key(1), about, nil)
	for _, priv := range []api.Hash{{}, key(9), leafKey(1), leafKey(4), g.Keys[0].Priv} {
		if h := wantEntered(t, "another key", 0, g, 2, priv); len(h.Keys) != 2 {
			t.Errorf("%d keys", len(h.Keys))
		}
	}
}

func TestEnterRefusesTreesAndPlaces(t *testing.T) {
	g, _ := grow(t, nil, mixed(), 6, key(1), about, nil)
	call := func(x api.Tree, place, mine int) func(b *book.Book) (climb.Grown, api.Errno) {
		return func(b *book.Book) (climb.Grown, api.Errno) {
			return enter(t, b, x, place, mine, g.Secrets[1], leafKey(5))
		}
	}
	for what, x := range wrongTrees() {
		wantRefused(t, what, api.ErrArg, call(x, 6, 0))
		wantRefused(t, what, api.ErrArg, call(x, -1, 99))
		wantRefused(t, what, api.ErrArg, call(x, 4, 4))
	}
	for _, no := range append(noPlaces(7), 4) {
		wantRefused(t, "no leaf at place", api.ErrNone, call(g.Tree, no, 0))
		wantRefused(t, "no leaf at mine", api.ErrNone, call(g.Tree, 6, no))
		wantRefused(t, "no leaf at both", api.ErrNone, call(g.Tree, no, no))
		wantRefused(t, "no leaves", api.ErrNone, call(api.Tree{}, no, 0))
	}
	for _, place := range []int{0, 1, 2, 3, 5, 6} {
		wantRefused(t, "one's own climb", api.ErrArg, call(g.Tree, place, place))
	}
	wantRefused(t, "the only leaf's climb", api.ErrArg, call(members(1), 0, 0))
}

func TestEnterRefusesWhatDoesNotFit(t *testing.T) {
	g, _ := grow(t, nil, members(8), 0, key(1), about, nil)
	call := func(x api.Tree, mine int, secret api.Hash) func(b *book.Book) (climb.Grown, api.Errno) {
		return func(b *book.Book) (climb.Grown, api.Errno) {
			return enter(t, b, x, 0, mine, secret, leafKey(mine+1))
		}
	}
	for mine, first := range map[int]int{1: 0, 2: 1, 3: 1, 4: 2, 7: 2} {
		for at, secret := range append(slices.Clone(g.Secrets), key(9), api.Hash{}, g.Commit) {
			if at != first {
				wantRefused(t, "another secret", api.ErrPath, call(g.Tree, mine, secret))
			}
		}
		for at, x := range []int{1, 3, 7} {
			blank, other, noughts := lentTree(g.Tree), lentTree(g.Tree), lentTree(g.Tree)
			blank.Parents[x/2] = api.Parent{}
			other.Parents[x/2].Pub = key(9)
			noughts.Parents[x/2].Pub = api.Hash{}
			for what, y := range map[string]api.Tree{"a blank node": blank, "another key": other, "a key of noughts": noughts} {
				if at >= first {
					wantRefused(t, what, api.ErrPath, call(y, mine, g.Secrets[first]))
					continue
				}
				// Further down nothing is looked at.
				if h, e := call(y, mine, g.Secrets[first])(nil); e != api.OK || h.Commit != g.Commit || !alikeTrees(h.Tree, y) {
					t.Errorf("%s further down: %s", what, told(h, e))
				}
			}
		}
	}
}

// Who is loose at a node over both comes in all the same: a secret makes its key.
func TestEnterWhereOneIsLoose(t *testing.T) {
	g, _ := grow(t, nil, members(4), 0, key(1), about, nil)
	g.Tree.Parents[1].Loose = []int{2}
	g.Tree.Parents[0].Loose = []int{0, 1}
	wantEntered(t, "loose", 0, g, 2, leafKey(3))
	wantEntered(t, "not loose", 0, g, 3, leafKey(4))
}

// Keep.

func TestKeep(t *testing.T) {
	x := mixed()
	leaf := func(place, name int) api.Key { return api.Key{Node: 2 * place, Priv: leafKey(name)} }
	node := func(x int) api.Key { return api.Key{Node: x, Priv: key(x)} }
	for what, c := range map[string]struct{ keys, want []api.Key }{
		"nothing":                    {nil, nil},
		"an empty list":              {[]api.Key{}, nil},
		"all there are, falling":     {[]api.Key{leaf(6, 3), node(11), leaf(5, 64), node(7), leaf(3, 4), leaf(2, 34), node(3), leaf(1, 33), node(1), leaf(0, 5)}, []api.Key{leaf(0, 5), node(1), leaf(1, 33), node(3), leaf(2, 34), leaf(3, 4), node(7), leaf(5, 64), node(11), leaf(6, 3)}},
		"one twice":                  {[]api.Key{node(7), node(1), node(7), node(1), node(1)}, []api.Key{node(1), node(7)}},
		"others of the same nodes":   {[]api.Key{{Node: 7, Priv: key(1)}, node(7), {Node: 7, Priv: key(8)}, {Node: 0, Priv: key(0)}}, []api.Key{node(7)}},
		"a leaf's at its place":      {[]api.Key{{Node: 1, Priv: leafKey(33)}, {Node: 3, Priv: leafKey(4)}}, nil},
		"those of blank nodes":       {[]api.Key{node(5), node(9), {Node: 8, Priv: key(0)}, {Node: 8}, {Node: 5}, {Node: 9}}, nil},
		"those of no nodes":          {[]api.Key{{Node: -1, Priv: key(1)}, {Node: 13, Priv: key(11)}, {Node: 14, Priv: leafKey(3)}, {Node: 1 << 62, Priv: leafKey(5)}, {Node: -1 << 63, Priv: leafKey(5)}, {Node: 1<<63 - 1, Priv: key(7)}}, nil},
		"one of many, the last":      {append(slices.Repeat([]api.Key{{Node: 7, Priv: key(99)}}, 1000), node(7)), []api.Key{node(7)}},
		"public keys in their place": {[]api.Key{{Node: 7, Priv: pubOf(key(7))}, {Node: 0, Priv: pubOf(leafKey(5))}}, nil},
	} {
		if got := keep(t, x, c.keys); !slices.Equal(got, c.want) {
			t.Errorf("%s: %d keys, want %d: %x", what, len(got), len(c.want), got)
		}
	}
	for what, y := range wrongTrees() {
		if got := keep(t, y, []api.Key{node(7), node(1), leaf(3, 4)}); len(got) != 0 {
			t.Errorf("%s: %d keys", what, len(got))
		}
	}
	if got := keep(t, api.Tree{}, []api.Key{{}, node(0), leaf(0, 1)}); len(got) != 0 {
		t.Errorf("a tree without leaves: %d keys", len(got))
	}
}

// Blank nodes have a key of noughts, which nobody's public key is; so no more is kept where a public key is noughts.
func TestKeepOfAKeyOfNoughts(t *testing.T) {
	x := api.Tree{Leaves: []api.Leaf{{Name: 1}, {Name: 2, Pub: pubOf(key(2))}}, Parents: []api.Parent{{Set: true}}}
	if got := keep(t, x, []api.Key{{Node: 0}, {Node: 1}, {Node: 2}, {Node: 2, Priv: key(2)}}); !slices.Equal(got, []api.Key{{Node: 2, Priv: key(2)}}) {
		t.Errorf("kept: %x", got)
	}
}

func TestKeepOfAnyKeys(t *testing.T) {
	r := rand.New(rand.NewSource(9))
	x := mixed()
	for range 300 {
		var keys []api.Key
		for range r.Intn(30) {
			k := api.Key{Node: r.Intn(16) - 1}
			switch names := []int{5, 33, 34, 4, 7, 64, 3}; {
			case r.Intn(4) == 0:
				k.Priv = key(r.Intn(16))
			case k.Node%2 == 0 && k.Node < 14:
				k.Priv = leafKey(names[k.Node/2])
			default:
				k.Priv = key(k.Node)
			}
			keys = append(keys, k)
		}
		if got := keep(t, x, keys); !slices.Equal(got, keptOf(x, keys)) {
			t.Fatalf("kept of %x: %x", keys, got)
		}
	}
}

// Promise 9.4: groups that come and go.

// group is a tree, and what each of its members has; the book has all that was noted, gone what those had who went.
type group struct {
	tree  api.Tree
	keys  map[int][]api.Key // by names
	fresh []int             // names that came behind the last climb
	book  *book.Book
	gone  []api.Hash
	next  int
}

func (g *group) key() api.Hash {
	g.next++
	return digest("key", num(g.next>>6), num(g.next&63))
}

func (g *group) add(name int) {
	priv := g.key()
	x, place, e := tree.Add(g.tree, api.Leaf{Name: name, Pub: prim.Pub(g.book, priv)})
	if e != api.OK {
		return
	}
	g.tree, g.keys[name], g.fresh = x, []api.Key{{Node: 2 * place, Priv: priv}}, append(g.fresh, name)
}

func (g *group) remove(name int) {
	g.tree, _ = tree.Remove(g.tree, tree.Place(g.tree, name))
	for _, key := range g.keys[name] {
		g.gone = append(g.gone, key.Priv)
	}
	delete(g.keys, name)
	g.fresh = slices.DeleteFunc(g.fresh, func(other int) bool { return other == name })
	g.cut()
}

func (g *group) renew(name int) {
	place := tree.Place(g.tree, name)
	priv := g.key()
	g.tree, _ = tree.Renew(g.tree, place, prim.Pub(g.book, priv))
	for _, key := range g.keys[name] {
		g.gone = append(g.gone, key.Priv)
	}
	g.keys[name] = append([]api.Key{{Node: 2 * place, Priv: priv}}, g.keys[name]...)
	g.cut()
}

// cut takes away what nodes have no more that were blanked.
func (g *group) cut() {
	for name := range g.keys {
		g.keys[name] = climb.Keep(g.tree, g.keys[name])
	}
}

// climb has a member climb, those who are fresh enter (or follow, if all are to), and the others follow.
func (g *group) climb(t *testing.T, name int, enterAll bool) {
	t.Helper()
	place := tree.Place(g.tree, name)
	var fresh []int
	if !enterAll {
		for _, name := range g.fresh {
			fresh = append(fresh, tree.Place(g.tree, name))
		}
	}
	before := g.tree
	made, e := grow(t, g.book, before, place, g.key(), about, fresh)
	if e != api.OK {
		t.Fatalf("Grow at %d: %d", place, e)
	}
	for other, keys := range g.keys {
		mine := tree.Place(before, other)
		switch {
		case mine == place:
			g.keys[other] = climb.Keep(made.Tree, append(made.Keys, keys...))
		case slices.Contains(fresh, mine):
			g.keys[other] = wantEntered(t, "a walk", place, made, mine, keys[0].Priv).Keys
		default:
			g.keys[other] = wantFollowed(t, "a walk", before, place, made, fresh, mine, keys).Keys
		}
	}
	g.tree, g.fresh = made.Tree, nil
	g.check(t, made.Commit, append(fresh, place))
}

// check demands that the members have the keys of the nodes above them, and know the commit secret, and those who went don't.
func (g *group) check(t *testing.T, commit api.Hash, insiders []int) {
	t.Helper()
	for name, keys := range g.keys {
		place := tree.Place(g.tree, name)
		nodes := []int{2 * place}
		for _, l := range levels(all(g.tree), place) {
			p := g.tree.Parents[l.node/2]
			if p.Set && !slices.Contains(p.Loose, place) {
				nodes = append(nodes, l.node)
			}
		}
		slices.Sort(nodes)
		if !slices.EqualFunc(keys, nodes, func(key api.Key, x int) bool { return key.Node == x && pubOf(key.Priv) == pubAt(g.tree, x) }) {
			t.Fatalf("%d has %d keys, want those of %v", name, len(keys), nodes)
		}
		var privs []api.Hash
		for _, key := range keys {
			privs = append(privs, key.Priv)
		}
		// Who made the secrets, or came in by one of them, keeps keys that were made of these, which tell nothing of what they were made of.
		if !slices.Contains(insiders, place) && !g.book.Knows(commit, privs...) {
			t.Fatalf("%d doesn't know the commit secret", name)
		}
	}
	if g.book.Knows(commit, g.gone...) {
		t.Fatalf("who went knows the commit secret")
	}
}

func (g *group) step(t *testing.T, r *rand.Rand, most int) {
	t.Helper()
	names := tree.Names(g.tree)
	if len(names) == 0 {
		g.add(1 + r.Intn(most))
		return
	}
	name := names[r.Intn(len(names))]
	switch kind := r.Intn(10); {
	case kind < 4:
		g.add(1 + r.Intn(most))
	case kind < 5:
		g.remove(name)
	case kind < 6:
		g.renew(name)
	default:
		g.climb(t, name, r.Intn(4) == 0)
	}
}

func walk(t *testing.T, seed int64, steps, most int) {
	t.Helper()
	g := &group{keys: map[int][]api.Key{}, book: book.New()}
	r := rand.New(rand.NewSource(seed))
	for range steps {
		g.step(t, r, most)
		if t.Failed() {
			t.Fatalf("in the walk %d", seed)
		}
	}
}

func TestWalksInSmallGroups(t *testing.T) {
	for seed := range int64(12) {
		walk(t, seed, 60, 3+int(seed)%6)
	}
}

func TestWalksInGreatGroups(t *testing.T) {
	if testing.Short() {
		t.Skip("takes seconds")
	}
	walk(t, 100, 150, 20)
	walk(t, 101, 90, 64)
}

// What each one who follows or enters comes to know stands in the book, too.
func TestWhoFollowsKnowsTheCommitSecret(t *testing.T) {
	b := book.New()
	x := mixed()
	for _, name := range []int{5, 33, 34, 4, 64, 3} {
		prim.Pub(b, leafKey(name))
	}
	for _, node := range []int{1, 3, 7, 11} {
		prim.Pub(b, key(node))
	}
	g, _ := grow(t, b, x, 6, key(50), about, []int{2})
	for mine, knows := range map[int]bool{0: true, 1: true, 2: false, 3: true, 5: true} {
		var privs []api.Hash
		for _, key := range mixedKeys(mine) {
			privs = append(privs, key.Priv)
		}
		if b.Knows(g.Commit, privs...) != knows {
			t.Errorf("who stands at %d: the commit secret is known: %t", mine, !knows)
		}
		// Of the node 11's secret just the leaf beside it comes to know.
		if b.Knows(g.Secrets[0], privs...) != (mine == 5) {
			t.Errorf("who stands at %d: the lowest secret is known: %t", mine, mine != 5)
		}
	}
	if !b.Knows(g.Commit, g.Secrets[0]) || !b.Knows(g.Commit, g.Secrets[1]) || !b.Knows(g.Commit, key(50)) {
		t.Errorf("a secret further down doesn't make the commit secret")
	}
	// The root's old key is that of who follows, and opens nothing.
	if b.Knows(g.Commit, key(7), key(11), leafKey(3), g.Keys[0].Priv) {
		t.Errorf("keys that aren't beside the climb make the commit secret")
	}
}

// Full books, and whatever comes in.

func TestAFullBookStopsNothing(t *testing.T) {
	if testing.Short() {
		t.Skip("takes seconds")
	}
	b := book.New()
	for i := range api.MaxBook {
		b.Note(fact(key(i), key(i)))
	}
	x := members(4)
	g, e := grow(t, b, x, 0, key(1), about, nil)
	if want, _ := grownOf(x, 0, key(1), about, nil); unlike(g, want) != "" || e != api.OK {
		t.Errorf("Grow: %s", told(g, e))
	}
	h, e := follow(t, b, x, 0, g.Tree.Leaves[0].Pub, g.Rungs, about, nil, 3, []api.Key{{Node: 6, Priv: leafKey(4)}})
	if e != api.OK || h.Commit != g.Commit {
		t.Errorf("Follow: %s", told(h, e))
	}
	if h, e = enter(t, b, g.Tree, 0, 3, g.Secrets[1], leafKey(4)); e != api.OK || h.Commit != g.Commit {
		t.Errorf("Enter: %s", told(h, e))
	}
	if b.Len() != api.MaxBook {
		t.Errorf("the book has %d facts", b.Len())
	}
}

// FuzzCalls hands in trees, rungs and keys that are partly right.
func FuzzCalls(f *testing.F) {
	f.Add(uint8(5), 0, 3, "wrap", uint8(2), uint8(1), uint8(7))
	f.Add(uint8(7), 6, 0, "", uint8(1), uint8(0), uint8(0))
	f.Add(uint8(1), 0, 0, strings.Repeat("a", 80), uint8(9), uint8(9), uint8(255))
	f.Add(uint8(64), 63, 1<<62+1, "x", uint8(63), uint8(3), uint8(3))
	f.Fuzz(func(t *testing.T, n uint8, place, mine int, wrap string, at, many, turn uint8) {
		x := members(int(n) % 66)
		if turn&1 == 1 {
			x = mixed()
		}
		if turn&2 == 2 && len(x.Parents) > 0 {
			x.Parents[int(at)%len(x.Parents)] = api.Parent{Set: turn&4 == 4, Pub: sha.Sum(wrap)}
		}
		fresh := []int{int(at), mine}
		g, e := grow(t, nil, x, place, key(1), wrap, fresh[:turn>>7])
		if e != api.OK {
			g.Rungs = make([]api.Rung, many)
		}
		if i := int(at); i < len(g.Rungs) && turn&8 == 8 {
			g.Rungs[i].Wraps = slices.Repeat([]string{wrap}, int(many)%8)
		}
		if i := int(at); i < len(g.Rungs) && len(g.Rungs[i].Wraps) > 0 && turn&16 == 16 {
			g.Rungs[i].Wraps[0] = wrap
		}
		var keys []api.Key
		for y := range 2 * len(x.Leaves) {
			if y%2 == 0 {
				keys = append(keys, api.Key{Node: y, Priv: leafKey(x.Leaves[y/2].Name)})
			} else {
				keys = append(keys, api.Key{Node: y, Priv: key(y)})
			}
		}
		h, e := follow(t, book.New(), x, place, sha.Sum(wrap), g.Rungs, wrap, fresh[:turn>>7], mine, keys)
		if e == api.OK && (h.Commit != g.Commit || !tree.Right(h.Tree)) {
			t.Errorf("Follow: %s", told(h, e))
		}
		for _, secret := range append(g.Secrets, sha.Sum(wrap)) {
			if h, e := enter(t, book.New(), g.Tree, place, mine, secret, key(0)); e == api.OK && h.Commit != g.Commit {
				t.Errorf("Enter: %s", told(h, e))
			}
		}
		keep(t, x, keys)
		keep(t, g.Tree, append(keys, g.Keys...))
	})
}
