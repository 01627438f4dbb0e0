package climb_test

import (
	"crypto/hmac"
	"crypto/sha256"
	"encoding/binary"
	"fmt"
	"reflect"
	"slices"
	"strings"
	"testing"

	"bevy/api"
	"bevy/book"
	"bevy/climb"
	"bevy/prim"
	"bevy/tree"
)

// The chapter's words, told once more: digests by the standard library alone, trees by their spans of leaves.

func digest(parts ...string) api.Hash { return sha256.Sum256([]byte(strings.Join(parts, ""))) }

func text(h api.Hash) string { return string(h[:]) }

// num is a number as chapter 1 writes it; none here needs more than two bytes.
func num(n int) string {
	if n < 64 {
		return string([]byte{byte(n)})
	}
	return string([]byte{0x40 | byte(n>>8), byte(n)})
}

func derived(key api.Hash, label, context string) api.Hash {
	c := hmac.New(sha256.New, key[:])
	c.Write([]byte(string(binary.BigEndian.AppendUint32(nil, uint32(len(label)))) + label + context))
	return api.Hash(c.Sum(nil))
}

func pubOf(priv api.Hash) api.Hash { return digest("pub", text(priv)) }

func markOf(pub api.Hash) api.Hash { return digest("mark", text(pub)) }

func fact(in, out api.Hash) api.Fact {
	return api.Fact{Ins: []api.Hash{in}, Outs: []api.Hash{out}}
}

// span is the tree of so many leaves from one on.
type span struct{ at, n int }

func (s span) half() int {
	k := 1
	for 2*k < s.n {
		k *= 2
	}
	return k
}

func (s span) left() span  { return span{s.at, s.half()} }
func (s span) right() span { return span{s.at + s.half(), s.n - s.half()} }

func (s span) root() int {
	if s.n == 1 {
		return 2 * s.at
	}
	return 2*(s.at+s.half()) - 1
}

// level is a node above a leaf, and what stands beside the one below.
type level struct {
	node   int
	beside span
}

// levels are those above a leaf, the lowest first.
func levels(s span, place int) []level {
	if s.n <= 1 {
		return nil
	}
	if l, r := s.left(), s.right(); place < r.at {
		return append(levels(l, place), level{s.root(), r})
	} else {
		return append(levels(r, place), level{s.root(), l})
	}
}

// resolved are the nodes to which the root of a span resolves.
func resolved(t api.Tree, s span) []int {
	x := s.root()
	if s.n == 1 {
		if t.Leaves[s.at].Name == 0 {
			return nil
		}
		return []int{x}
	}
	if !t.Parents[x/2].Set {
		return append(resolved(t, s.left()), resolved(t, s.right())...)
	}
	list := []int{x}
	for _, place := range t.Parents[x/2].Loose {
		list = append(list, 2*place)
	}
	return list
}

func all(t api.Tree) span { return span{0, len(t.Leaves)} }

// besideOf are the nodes beside a climb, level by level.
func besideOf(t api.Tree, place int, fresh []int) [][]int {
	var lists [][]int
	for _, l := range levels(all(t), place) {
		var list []int
		for _, x := range resolved(t, l.beside) {
			isFresh := false
			for _, place := range fresh {
				isFresh = isFresh || place >= 0 && place < len(t.Leaves) && 2*place == x
			}
			if !isFresh {
				list = append(list, x)
			}
		}
		lists = append(lists, list)
	}
	return lists
}

// rowOf makes what follows of nodes from the secret of the first one on, and the facts of it.
func rowOf(nodes []int, secret api.Hash) (secrets []api.Hash, keys []api.Key, commit api.Hash, facts []api.Fact) {
	for i, x := range nodes {
		if i > 0 {
			next := derived(secret, "path", "")
			facts = append(facts, fact(secret, next))
			secret = next
		}
		priv := derived(secret, "node", "")
		facts = append(facts, fact(secret, priv), fact(priv, markOf(pubOf(priv))))
		secrets = append(secrets, secret)
		keys = append(keys, api.Key{Node: x, Priv: priv})
	}
	commit = derived(secret, "commit", "")
	return secrets, keys, commit, append(facts, fact(secret, commit))
}

// keptOf are the keys that are those of a tree's nodes.
func keptOf(t api.Tree, keys []api.Key) []api.Key {
	var kept []api.Key
	for x := range max(0, 2*len(t.Leaves)-1) {
		for _, key := range keys {
			if key.Node == x && pubAt(t, x) == pubOf(key.Priv) && hasKey(t, x) {
				kept = append(kept, key)
				break
			}
		}
	}
	return kept
}

func pubAt(t api.Tree, x int) api.Hash {
	if x%2 == 0 {
		return t.Leaves[x/2].Pub
	}
	return t.Parents[x/2].Pub
}

func hasKey(t api.Tree, x int) bool {
	if x%2 == 0 {
		return t.Leaves[x/2].Name != 0
	}
	return t.Parents[x/2].Set
}

// grownOf is what the chapter says of Grow, and the facts of it.
func grownOf(t api.Tree, place int, once api.Hash, about string, fresh []int) (climb.Grown, []api.Fact) {
	nodes := []int{2 * place}
	for _, l := range levels(all(t), place) {
		nodes = append(nodes, l.node)
	}
	leaf := derived(once, "leaf", "")
	secrets, keys, commit, facts := rowOf(nodes, leaf)
	facts = append(facts, fact(once, leaf))
	var g climb.Grown
	var pubs []api.Hash
	for i, list := range besideOf(t, place, fresh) {
		rung := api.Rung{Pub: pubOf(keys[i+1].Priv)}
		for j, x := range list {
			key := derived(once, "wrap", num(i)+num(j))
			pub := pubAt(t, x)
			shared := digest("kem", text(pub), text(key))
			rung.Wraps = append(rung.Wraps, prim.Wrap(nil, pub, key, about, text(secrets[i+1])))
			facts = append(facts, fact(once, key), fact(markOf(pub), shared), fact(key, shared), fact(shared, secrets[i+1]))
		}
		g.Rungs = append(g.Rungs, rung)
		pubs = append(pubs, rung.Pub)
	}
	g.Tree, _ = tree.Path(t, place, pubOf(keys[0].Priv), pubs)
	g.Secrets, g.Keys, g.Commit = secrets[1:], keptOf(g.Tree, keys), commit
	return g, facts
}

// overOf are the nodes that stand above both leaves, the lowest first, and how many stand above the first one alone.
func overOf(t api.Tree, place, mine int) (nodes []int, ahead int) {
	for i, l := range levels(all(t), place) {
		if len(nodes) == 0 && (mine < l.beside.at || mine >= l.beside.at+l.beside.n) {
			continue
		}
		if len(nodes) == 0 {
			ahead = i
		}
		nodes = append(nodes, l.node)
	}
	return nodes, ahead
}

// followedOf is what the chapter says of Follow, where it isn't refused, and the facts of it.
func followedOf(t api.Tree, place int, leaf api.Hash, rungs []api.Rung, mine int, secret api.Hash, keys []api.Key) (climb.Grown, []api.Fact) {
	nodes, _ := overOf(t, place, mine)
	secrets, made, commit, facts := rowOf(nodes, secret)
	var pubs []api.Hash
	for _, rung := range rungs {
		pubs = append(pubs, rung.Pub)
	}
	x, _ := tree.Path(t, place, leaf, pubs)
	return climb.Grown{Tree: x, Rungs: rungs, Secrets: secrets, Keys: keptOf(x, append(made, keys...)), Commit: commit}, facts
}

// enteredOf is what the chapter says of Enter, where it isn't refused, and the facts of it.
func enteredOf(t api.Tree, place, mine int, secret, priv api.Hash) (climb.Grown, []api.Fact) {
	nodes, _ := overOf(t, place, mine)
	secrets, made, commit, facts := rowOf(nodes, secret)
	return climb.Grown{Tree: t, Secrets: secrets, Keys: keptOf(t, append(made, api.Key{Node: 2 * mine, Priv: priv})), Commit: commit}, facts
}

// Keys, and trees of them.

// key is the n-th of many keys.
func key(n int) api.Hash {
	var h api.Hash
	binary.BigEndian.PutUint64(h[8:], uint64(n)+1)
	h[0], h[31] = 0xa5, byte(n)
	return h
}

// leafKey is the secret key of the leaf that a name has in the trees that members and mixed make.
func leafKey(name int) api.Hash { return key(1000 + name) }

func leafOf(name int) api.Leaf {
	return api.Leaf{Name: name, Pub: pubOf(leafKey(name)), Verify: key(2000 + name)}
}

// members is the tree of the names 1 to n, in which nothing is Set.
func members(n int) api.Tree {
	var t api.Tree
	for name := 1; name <= n; name++ {
		t, _, _ = tree.Add(t, leafOf(name))
	}
	return t
}

// mixed is a tree of 7 leaves, the names 5, 33, 34, 4, none, 64, 3; the nodes 1, 3, 7 and 11 are Set, with the places 1, 1 and 2, 1 and 2, none loose; key(n) is the secret key of the node n.
func mixed() api.Tree {
	var t api.Tree
	for _, name := range []int{5, 2, 9, 4, 7, 64, 3} {
		t, _, _ = tree.Add(t, leafOf(name))
	}
	for _, place := range []int{1, 2, 4} {
		t, _ = tree.Remove(t, place)
	}
	t, _ = tree.Path(t, 0, pubOf(leafKey(5)), []api.Hash{pubOf(key(1)), pubOf(key(3)), pubOf(key(7))})
	t, _ = tree.Path(t, 6, pubOf(leafKey(3)), []api.Hash{pubOf(key(11)), pubOf(key(7))})
	t, _, _ = tree.Add(t, leafOf(33))
	t, _, _ = tree.Add(t, leafOf(34))
	return t
}

// wrongTrees are trees that aren't right.
func wrongTrees() map[string]api.Tree {
	trees := map[string]api.Tree{"a parent without leaves": {Parents: []api.Parent{{}}}, "a blank leaf": {Leaves: []api.Leaf{{}}}}
	for what, change := range map[string]func(t *api.Tree){
		"a parent too few":         func(t *api.Tree) { t.Parents = t.Parents[:5] },
		"a leaf too few":           func(t *api.Tree) { t.Leaves = t.Leaves[:6] },
		"the last leaf blank":      func(t *api.Tree) { t.Leaves[6] = api.Leaf{} },
		"a name twice":             func(t *api.Tree) { t.Leaves[0].Name = 3 },
		"a name too great":         func(t *api.Tree) { t.Leaves[0].Name = 65 },
		"a name below 1":           func(t *api.Tree) { t.Leaves[0].Name = -1 },
		"a blank parent with keys": func(t *api.Tree) { t.Parents[0].Set = false },
		"a blank leaf with a key":  func(t *api.Tree) { t.Leaves[4].Pub = key(1) },
		"a blank leaf loose":       func(t *api.Tree) { t.Parents[3].Loose = []int{4} },
		"loose ones that fall":     func(t *api.Tree) { t.Parents[3].Loose = []int{2, 1} },
	} {
		t := mixed()
		change(&t)
		trees[what] = t
	}
	return trees
}

// noPlaces are numbers of no leaf of a tree of n leaves.
func noPlaces(n int) []int {
	return []int{-1, -2, -64, n, n + 1, 64, 127, 128, 256, 1 << 16, 1 << 31, 1 << 32, 1 << 62, 1<<62 + 1, 1<<63 - 1, -1 << 63, -1<<63 + 1}
}

// What calls answer, held against each other.

func alikeTrees(a, b api.Tree) bool {
	return slices.Equal(a.Leaves, b.Leaves) && slices.EqualFunc(a.Parents, b.Parents, func(p, q api.Parent) bool {
		return p.Set == q.Set && p.Pub == q.Pub && p.Above == q.Above && slices.Equal(p.Loose, q.Loose)
	})
}

func alikeRungs(a, b []api.Rung) bool {
	return slices.EqualFunc(a, b, func(p, q api.Rung) bool { return p.Pub == q.Pub && slices.Equal(p.Wraps, q.Wraps) })
}

// unlike names what isn't alike in two answers; nothing, if all is.
func unlike(a, b climb.Grown) string {
	var parts []string
	for name, same := range map[string]bool{
		"Tree":    alikeTrees(a.Tree, b.Tree),
		"Rungs":   alikeRungs(a.Rungs, b.Rungs),
		"Secrets": slices.Equal(a.Secrets, b.Secrets),
		"Keys":    slices.Equal(a.Keys, b.Keys),
		"Commit":  a.Commit == b.Commit,
	} {
		if !same {
			parts = append(parts, name)
		}
	}
	slices.Sort(parts)
	return strings.Join(parts, ", ")
}

// told is an answer in few signs.
func told(g climb.Grown, e api.Errno) string {
	var nodes, wraps []int
	for _, key := range g.Keys {
		nodes = append(nodes, key.Node)
	}
	for _, rung := range g.Rungs {
		wraps = append(wraps, len(rung.Wraps))
	}
	return fmt.Sprintf("error %d, %d leaves, wraps %v, %d secrets, keys of %v, commit %x", e, len(g.Tree.Leaves), wraps, len(g.Secrets), nodes, g.Commit[:4])
}

func isNone(g climb.Grown) bool { return unlike(g, climb.Grown{}) == "" }

// wantFacts demands that the book has these facts and no other: noted once more, they are no more.
func wantFacts(t *testing.T, what string, b *book.Book, facts []api.Fact) {
	t.Helper()
	if b.Len() != len(facts) {
		t.Errorf("%s: the book has %d facts, want %d", what, b.Len(), len(facts))
	}
	before := b.Len()
	for i, f := range facts {
		b.Note(f)
		if b.Len() != before {
			t.Errorf("%s: the book hasn't the fact %d, %x makes %x", what, i, f.Ins[0][:4], f.Outs[0][:4])
			before = b.Len()
		}
	}
}

// Memory: what is handed in keeps what it has, spare room included, and no list of an answer has any of it.

// roomy is a list alike, with spare room behind it, in which mark stands.
func roomy[T any](list []T, mark T) []T {
	made := make([]T, len(list), len(list)+3)
	copy(made, list)
	for i := len(list); i < cap(made); i++ {
		made[:cap(made)][i] = mark
	}
	return made
}

func lentTree(t api.Tree) api.Tree {
	made := api.Tree{Leaves: roomy(t.Leaves, leafOf(77)), Parents: roomy(t.Parents, api.Parent{Set: true, Pub: key(7), Loose: []int{7}})}
	for i := range made.Parents[:cap(made.Parents)] {
		p := &made.Parents[:cap(made.Parents)][i]
		p.Loose = roomy(p.Loose, 777)
	}
	return made
}

func lentRungs(rungs []api.Rung) []api.Rung {
	made := roomy(rungs, api.Rung{Pub: key(7), Wraps: []string{"mark"}})
	for i := range made[:cap(made)] {
		r := &made[:cap(made)][i]
		r.Wraps = roomy(r.Wraps, "mark")
	}
	return made
}

func lentKeys(keys []api.Key) []api.Key { return roomy(keys, api.Key{Node: 777, Priv: key(7)}) }

// block is the memory of a list, spare room included.
type block struct {
	from, behind uintptr
	list         string
}

// blocks are those of all lists in a value.
func blocks(name string, v reflect.Value) []block {
	var found []block
	switch v.Kind() {
	case reflect.Struct:
		for i := range v.NumField() {
			found = append(found, blocks(name+"."+v.Type().Field(i).Name, v.Field(i))...)
		}
	case reflect.Slice:
		if v.Cap() > 0 {
			found = append(found, block{v.Pointer(), v.Pointer() + uintptr(v.Cap())*v.Type().Elem().Size(), name})
		}
		whole := v.Slice(0, v.Cap())
		for i := range v.Cap() {
			found = append(found, blocks(fmt.Sprint(name, "[", i, "]"), whole.Index(i))...)
		}
	}
	return found
}

// wantApart demands that no two lists in these values share memory.
func wantApart(t *testing.T, what string, values map[string]any) {
	t.Helper()
	var found []block
	for name, v := range values {
		found = append(found, blocks(name, reflect.ValueOf(v))...)
	}
	slices.SortFunc(found, func(a, b block) int {
		if a.from < b.from {
			return -1
		}
		return 1
	})
	for i := 1; i < len(found); i++ {
		if found[i].from < found[i-1].behind {
			t.Errorf("%s: %s and %s share memory", what, found[i-1].list, found[i].list)
			return
		}
	}
}

// whole is all that lists have, spare room included, as a text.
func whole(values ...any) string {
	var b strings.Builder
	var put func(v reflect.Value)
	put = func(v reflect.Value) {
		switch v.Kind() {
		case reflect.Struct:
			for i := range v.NumField() {
				put(v.Field(i))
			}
		case reflect.Slice:
			fmt.Fprint(&b, "<", v.Len(), ",", v.Cap(), ":")
			for i := range v.Cap() {
				put(v.Slice(0, v.Cap()).Index(i))
			}
			b.WriteString(">")
		default:
			fmt.Fprintf(&b, "%v;", v)
		}
	}
	for _, v := range values {
		put(reflect.ValueOf(v))
	}
	return b.String()
}

// grow calls Grow twice with arguments that have spare room, and demands what holds of memory; the second time there is no book.
func grow(t *testing.T, b *book.Book, x api.Tree, place int, once api.Hash, about string, fresh []int) (climb.Grown, api.Errno) {
	t.Helper()
	x, fresh = lentTree(x), roomy(fresh, 777)
	before := whole(x, fresh)
	g, e := climb.Grow(b, x, place, once, about, fresh)
	again, f := climb.Grow(nil, x, place, once, about, fresh)
	wantCall(t, "Grow", before, whole(x, fresh), g, again, e, f)
	wantApart(t, "Grow", map[string]any{"t": x, "fresh": fresh, "the answer": g, "another answer": again})
	return g, e
}

func follow(t *testing.T, b *book.Book, x api.Tree, place int, leaf api.Hash, rungs []api.Rung, about string, fresh []int, mine int, keys []api.Key) (climb.Grown, api.Errno) {
	t.Helper()
	x, rungs, fresh, keys = lentTree(x), lentRungs(rungs), roomy(fresh, 777), lentKeys(keys)
	before := whole(x, rungs, fresh, keys)
	g, e := climb.Follow(b, x, place, leaf, rungs, about, fresh, mine, keys)
	again, f := climb.Follow(nil, x, place, leaf, rungs, about, fresh, mine, keys)
	wantCall(t, "Follow", before, whole(x, rungs, fresh, keys), g, again, e, f)
	wantApart(t, "Follow", map[string]any{"t": x, "rungs": rungs, "fresh": fresh, "keys": keys, "the answer": g, "another answer": again})
	return g, e
}

func enter(t *testing.T, b *book.Book, x api.Tree, place, mine int, secret, priv api.Hash) (climb.Grown, api.Errno) {
	t.Helper()
	x = lentTree(x)
	before := whole(x)
	g, e := climb.Enter(b, x, place, mine, secret, priv)
	again, f := climb.Enter(nil, x, place, mine, secret, priv)
	wantCall(t, "Enter", before, whole(x), g, again, e, f)
	wantApart(t, "Enter", map[string]any{"t": x, "the answer": g, "another answer": again})
	return g, e
}

func wantCall(t *testing.T, what, before, behind string, g, again climb.Grown, e, f api.Errno) {
	t.Helper()
	if before != behind {
		t.Errorf("%s changes what was handed in", what)
	}
	if bad := unlike(g, again); bad != "" || e != f {
		t.Errorf("%s answers otherwise with a book than without: %s, %d, %d", what, bad, e, f)
	}
	if e != api.OK && !isNone(g) {
		t.Errorf("%s: beside an error: %s", what, told(g, e))
	}
}

func keep(t *testing.T, x api.Tree, keys []api.Key) []api.Key {
	t.Helper()
	x, keys = lentTree(x), lentKeys(keys)
	before := whole(x, keys)
	kept, again := climb.Keep(x, keys), climb.Keep(x, keys)
	if before != whole(x, keys) {
		t.Errorf("Keep changes what was handed in")
	}
	if !slices.Equal(kept, again) {
		t.Errorf("Keep answers %d keys, and then %d", len(kept), len(again))
	}
	wantApart(t, "Keep", map[string]any{"t": x, "keys": keys, "the answer": kept, "another answer": again})
	return kept
}

// wantRefused demands an error, and that nothing is noted.
func wantRefused(t *testing.T, what string, want api.Errno, call func(b *book.Book) (climb.Grown, api.Errno)) {
	t.Helper()
	b := book.New()
	if g, e := call(b); e != want || !isNone(g) {
		t.Errorf("%s: %s, want the error %d", what, told(g, e), want)
	}
	if b.Len() != 0 {
		t.Errorf("%s: %d facts are noted", what, b.Len())
	}
}
