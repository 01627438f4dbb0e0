package tree_test

import (
	"crypto/sha256"
	"encoding/binary"
	"fmt"
	"maps"
	"math"
	"math/rand"
	"slices"
	"strings"
	"testing"

	"bevy/api"
	"bevy/bough"
	"bevy/tree"
)

const maxLeaves = 64

// The chapter's words, told once more: places and nodes in maps, digests by the standard library alone. Where nodes stand is layer 7's, which its own tests hold.

// model is a tree: how many leaves, who stands at which place, and which keys the nodes have that are Set.
type model struct {
	n      int
	leaves map[int]api.Leaf
	nodes  map[int]inner
}

// inner is what a node has that is Set; who is loose there is told by places.
type inner struct {
	pub, above api.Hash
	loose      map[int]bool
}

func empty() *model { return &model{leaves: map[int]api.Leaf{}, nodes: map[int]inner{}} }

// above is the nodes above the leaf at a place, the lowest first.
func (m *model) above(place int) []int { return bough.Direct(m.n, place) }

func (m *model) place(name int) int {
	for place, leaf := range m.leaves {
		if leaf.Name == name {
			return place
		}
	}
	return -1
}

func (m *model) names() []int {
	var list []int
	for _, leaf := range m.leaves {
		list = append(list, leaf.Name)
	}
	slices.Sort(list)
	return list
}

func (m *model) add(leaf api.Leaf) int {
	place := 0
	for m.leaves[place].Name != 0 {
		place++
	}
	m.n = max(m.n, place+1)
	m.leaves[place] = leaf
	for _, x := range m.above(place) {
		if in, ok := m.nodes[x]; ok {
			in.loose[place] = true
		}
	}
	return place
}

func (m *model) blank(place int) {
	for _, x := range m.above(place) {
		delete(m.nodes, x)
	}
}

func (m *model) renew(place int, pub api.Hash) {
	leaf := m.leaves[place]
	m.leaves[place] = api.Leaf{Name: leaf.Name, Verify: leaf.Verify, Pub: pub}
	m.blank(place)
}

func (m *model) remove(place int) {
	m.blank(place)
	delete(m.leaves, place)
	m.n = 0
	for other := range m.leaves {
		m.n = max(m.n, other+1)
	}
	maps.DeleteFunc(m.nodes, func(x int, _ inner) bool { return x > 2*m.n-2 })
}

func (m *model) climb(place int, pub api.Hash, keys []api.Hash) {
	up := m.above(place)
	// What is said of x, the node right below the i-th above the leaf, is told by what is said further up.
	var said func(i, x int) api.Hash
	said = func(i, x int) api.Hash {
		if i == len(up) {
			return api.Hash{}
		}
		return digest("above", text(keys[i]), text(said(i+1, up[i])), text(m.hash(bough.Beside(m.n, x))))
	}
	made := map[int]inner{}
	for i, x := range up {
		made[x] = inner{pub: keys[i], above: said(i+1, x), loose: map[int]bool{}}
	}
	leaf := m.leaves[place]
	leaf.Pub, leaf.Above = pub, said(0, 2*place)
	m.leaves[place] = leaf
	maps.Copy(m.nodes, made)
}

func (in inner) places() []int { return slices.Sorted(maps.Keys(in.loose)) }

// resolve is the nodes that x resolves to.
func (m *model) resolve(x int) []int {
	if x%2 == 0 {
		if m.leaves[x/2].Name == 0 {
			return nil
		}
		return []int{x}
	}
	in, ok := m.nodes[x]
	if !ok {
		return append(m.resolve(bough.Left(m.n, x)), m.resolve(bough.Right(m.n, x))...)
	}
	list := []int{x}
	for _, place := range in.places() {
		list = append(list, 2*place)
	}
	return list
}

func (m *model) hash(x int) api.Hash {
	if x%2 == 0 {
		return digest("leaf", m.leafBytes(x/2))
	}
	return digest("node", m.nodeBytes(x), text(m.hash(bough.Left(m.n, x))), text(m.hash(bough.Right(m.n, x))))
}

func (m *model) leafBytes(place int) string {
	leaf, ok := m.leaves[place]
	if !ok {
		return "\x00"
	}
	return "\x01" + num(leaf.Name) + text(leaf.Pub) + text(leaf.Verify) + text(leaf.Above)
}

func (m *model) nodeBytes(x int) string {
	in, ok := m.nodes[x]
	if !ok {
		return "\x00"
	}
	s := "\x01" + text(in.pub) + text(in.above) + num(len(in.loose))
	for _, place := range in.places() {
		s += num(place)
	}
	return s
}

func (m *model) pack() string {
	s := num(m.n)
	for place := range m.n {
		s += m.leafBytes(place)
	}
	for i := range max(0, m.n-1) {
		s += m.nodeBytes(2*i + 1)
	}
	return s
}

func (m *model) tree() api.Tree {
	t := api.Tree{Leaves: make([]api.Leaf, m.n), Parents: make([]api.Parent, max(0, m.n-1))}
	for place, leaf := range m.leaves {
		t.Leaves[place] = leaf
	}
	for x, in := range m.nodes {
		t.Parents[x/2] = api.Parent{Set: true, Pub: in.pub, Above: in.above, Loose: in.places()}
	}
	return t
}

// Keys and bytes.

func digest(parts ...string) api.Hash { return sha256.Sum256([]byte(strings.Join(parts, ""))) }

func text(h api.Hash) string { return string(h[:]) }

// num is a number as chapter 1 writes it; none here needs more than two bytes.
func num(n int) string {
	if n < 64 {
		return string([]byte{byte(n)})
	}
	return string([]byte{0x40 | byte(n>>8), byte(n)})
}

// key is the n-th of many keys.
func key(n int) api.Hash {
	var h api.Hash
	binary.BigEndian.PutUint64(h[8:], uint64(n)+1)
	h[0], h[31] = 0xa5, byte(n)
	return h
}

func keysFrom(n, many int) []api.Hash {
	list := make([]api.Hash, many)
	for i := range list {
		list[i] = key(n + i)
	}
	return list
}

func leafOf(name int) api.Leaf {
	return api.Leaf{Name: name, Pub: key(1000 + name), Verify: key(2000 + name)}
}

// Trees.

// alike tells whether two trees are, a list without elements being nil or not.
func alike(a, b api.Tree) bool {
	return slices.Equal(a.Leaves, b.Leaves) && slices.EqualFunc(a.Parents, b.Parents, func(p, q api.Parent) bool {
		return p.Set == q.Set && p.Pub == q.Pub && p.Above == q.Above && slices.Equal(p.Loose, q.Loose)
	})
}

// told is a tree in few signs: digests by two bytes of the middle and the end.
func told(x api.Tree) string {
	short := func(h api.Hash) string { return fmt.Sprintf("%x", []byte{h[15], h[31]}) }
	var parts []string
	for _, leaf := range x.Leaves {
		parts = append(parts, fmt.Sprint(leaf.Name, short(leaf.Pub), short(leaf.Verify), short(leaf.Above)))
	}
	for _, p := range x.Parents {
		parts = append(parts, fmt.Sprint(p.Set, short(p.Pub), short(p.Above), p.Loose))
	}
	return strings.Join(parts, "; ")
}

// isNone tells whether a tree is its zero value, as it is beside an error.
func isNone(t api.Tree) bool { return len(t.Leaves) == 0 && len(t.Parents) == 0 }

// roomy is a list alike, with spare room behind it, in which mark stands.
func roomy[T any](list []T, mark T) []T {
	made := make([]T, len(list), len(list)+3)
	copy(made, list)
	for i := len(list); i < cap(made); i++ {
		made[:cap(made)][i] = mark
	}
	return made
}

// lent is a tree alike, with spare room behind each list.
func lent(t api.Tree) api.Tree {
	made := api.Tree{Leaves: roomy(t.Leaves, leafOf(77)), Parents: roomy(t.Parents, api.Parent{Set: true, Pub: key(7), Loose: []int{7}})}
	for i := range made.Parents {
		made.Parents[i].Loose = roomy(made.Parents[i].Loose, 777)
	}
	return made
}

// whole is a tree with all the spare room in which something may stand.
func whole(t api.Tree) api.Tree {
	made := api.Tree{Leaves: t.Leaves[:cap(t.Leaves)], Parents: slices.Clone(t.Parents[:cap(t.Parents)])}
	for i := range made.Parents {
		made.Parents[i].Loose = made.Parents[i].Loose[:cap(made.Parents[i].Loose)]
	}
	return made
}

// wantKept calls do with a tree like t, with spare room, and demands that do changes none of it.
func wantKept(t *testing.T, x api.Tree, do func(x api.Tree)) {
	t.Helper()
	mine, other := lent(x), lent(x)
	do(mine)
	if !alike(whole(mine), whole(other)) {
		t.Errorf("a tree that was handed in is changed: %s", told(mine))
	}
}

// wantTree demands that a tree is right, and what all calls that change nothing say of it.
func wantTree(t *testing.T, x api.Tree, m *model) {
	t.Helper()
	if !alike(x, m.tree()) {
		t.Fatalf("the tree is\n%s, want\n%s", told(x), told(m.tree()))
	}
	wantKept(t, x, func(x api.Tree) {
		if !tree.Right(x) {
			t.Errorf("not right: %s", told(x))
		}
		wantNames(t, x, m)
		wantNodes(t, x, m)
		if got := tree.Pack(x); got != m.pack() {
			t.Errorf("Pack = %x, want %x", got, m.pack())
		}
	})
	if u, e := tree.Unpack(m.pack()); !alike(u, x) || e != api.OK {
		t.Errorf("Unpack(%x) = %s, %d", m.pack(), told(u), e)
	}
}

func wantNames(t *testing.T, x api.Tree, m *model) {
	t.Helper()
	if got := tree.Names(x); !slices.Equal(got, m.names()) {
		t.Errorf("Names = %v, want %v", got, m.names())
	}
	for name := range maxLeaves + 2 {
		want := -1
		if name > 0 {
			want = m.place(name)
		}
		if got := tree.Place(x, name); got != want {
			t.Errorf("Place(%d) = %d, want %d", name, got, want)
		}
	}
}

func wantNodes(t *testing.T, x api.Tree, m *model) {
	t.Helper()
	root := digest("none")
	if m.n > 0 {
		root = m.hash(bough.Root(m.n))
	}
	if got := tree.Hash(x); got != root {
		t.Errorf("Hash = %x, want %x", got, root)
	}
	for node := range max(0, 2*m.n-1) {
		if got := tree.Resolve(x, node); !slices.Equal(got, m.resolve(node)) {
			t.Errorf("Resolve(%d) = %v, want %v", node, got, m.resolve(node))
		}
		if got := tree.HashAt(x, node); got != m.hash(node) {
			t.Errorf("HashAt(%d) = %x, want %x", node, got, m.hash(node))
		}
	}
}

// noNodes are numbers of no node of a tree of n leaves.
func noNodes(n int) []int {
	return []int{-1, -2, -3, 2*n - 1, 2 * n, 2*n + 1, 127, 128, 256, 257, 1 << 16, 1 << 31, 1 << 32, 1<<32 + 1, 1 << 62, 1<<62 + 1,
		math.MinInt, math.MinInt + 1, math.MaxInt, math.MaxInt - 1}
}

// noNames are numbers of no name.
func noNames() []int {
	return []int{0, -1, -5, -64, 65, 66, 128, 256 + 5, 1<<16 + 5, 1 << 32, 1<<32 + 5, 1<<62 + 5, math.MinInt, math.MinInt + 5, math.MaxInt}
}

// walk changes a tree and its model alike, by chance, and calls do behind each step.
func walk(t *testing.T, seed int64, steps, most int, do func(x api.Tree, m *model)) {
	t.Helper()
	r := rand.New(rand.NewSource(seed))
	x, m := api.Tree{}, empty()
	for i := range steps {
		x = step(t, r, i, most, x, m)
		do(x, m)
	}
}

// step does one thing, most names at the most, to a tree and its model.
func step(t *testing.T, r *rand.Rand, i, most int, x api.Tree, m *model) api.Tree {
	t.Helper()
	name := 1 + r.Intn(most)
	place := m.place(name)
	var e api.Errno
	before := x
	wantKept(t, before, func(before api.Tree) {
		switch kind := r.Intn(8); {
		case place < 0:
			leaf := api.Leaf{Name: name, Pub: key(9 * i), Verify: key(9*i + 1), Above: key(9*i + 2)}
			var at int
			if x, at, e = tree.Add(before, leaf); at != m.add(leaf) {
				t.Errorf("Add(%d) at %d", name, at)
			}
		case kind < 4:
			keys := keysFrom(9*i+1, len(m.above(place)))
			x, e = tree.Path(before, place, key(9*i), keys)
			m.climb(place, key(9*i), keys)
		case kind < 6:
			x, e = tree.Remove(before, place)
			m.remove(place)
		default:
			x, e = tree.Renew(before, place, key(9*i))
			m.renew(place, key(9*i))
		}
	})
	if e != api.OK {
		t.Fatalf("the step %d is refused: %d", i, e)
	}
	return x
}

// full is the tree of n leaves, the names from 1 on, in which nothing is Set.
func full(n int) (api.Tree, *model) {
	m := empty()
	for name := 1; name <= n; name++ {
		m.add(leafOf(name))
	}
	return m.tree(), m
}

// mixed is a tree of 7 leaves, the names 5, 33, 34, 4, none, 64, 3; the nodes 1, 3, 7 and 11 are Set, with the places 1, 1 and 2, 1 and 2, none loose.
func mixed() (api.Tree, *model) {
	m := empty()
	for _, name := range []int{5, 2, 9, 4, 7, 64, 3} {
		m.add(leafOf(name))
	}
	for _, place := range []int{1, 2, 4} {
		m.remove(place)
	}
	m.climb(0, key(1), keysFrom(2, 3))
	m.climb(6, key(11), keysFrom(12, 2))
	m.add(leafOf(33))
	m.add(leafOf(34))
	return m.tree(), m
}
