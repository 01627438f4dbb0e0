package era_test

import (
	"crypto/hmac"
	"crypto/sha256"
	"encoding/binary"
	"fmt"
	"math/rand"
	"reflect"
	"slices"
	"strings"
	"testing"

	"bevy/api"
	"bevy/book"
	"bevy/era"
	"bevy/keys"
	"bevy/ppr"
	"bevy/tree"
)

// The chapters' words, told once more by the standard library alone.

func digest(parts ...string) api.Hash { return sha256.Sum256([]byte(strings.Join(parts, ""))) }

func text(h api.Hash) string { return string(h[:]) }

func derived(key api.Hash, label, context string) api.Hash {
	c := hmac.New(sha256.New, key[:])
	c.Write([]byte(string(binary.BigEndian.AppendUint32(nil, uint32(len(label)))) + label + context))
	return api.Hash(c.Sum(nil))
}

func pubOf(priv api.Hash) api.Hash { return digest("pub", text(priv)) }

// num is a number as layer 1 writes it.
func num(n int) string {
	switch {
	case n < 1<<6:
		return string([]byte{byte(n)})
	case n < 1<<14:
		return string(binary.BigEndian.AppendUint16(nil, uint16(n|1<<14)))
	case n < 1<<30:
		return string(binary.BigEndian.AppendUint32(nil, uint32(n|2<<30)))
	}
	return string(binary.BigEndian.AppendUint64(nil, uint64(n)|3<<62))
}

func fact(in, out api.Hash) api.Fact {
	return api.Fact{Ins: []api.Hash{in}, Outs: []api.Hash{out}}
}

// firstEra is what the chapter says of Found, where it isn't refused, with the epoch's secret and the facts of it.
func firstEra(roll []api.Person, me int, once, priv api.Hash) (e *era.Era, epoch api.Hash, facts []api.Fact) {
	leaf := api.Leaf{Name: me, Pub: pubOf(priv), Verify: roll[me-1].Verify}
	said := digest("said", text(api.Hash{}), "found")
	hash := digest("leaf", "\x01", num(me), text(leaf.Pub), text(leaf.Verify), text(api.Hash{}))
	context := text(api.Hash{}) + "\x00" + text(hash) + text(said)
	joiner := derived(once, "found", "")
	epoch = derived(joiner, "epoch", context)
	apps, export := derived(epoch, "apps", ""), derived(epoch, "export", "")
	app := derived(apps, "app", "\x00")
	facts = []api.Fact{
		fact(priv, digest("mark", text(leaf.Pub))), fact(once, joiner),
		fact(joiner, derived(joiner, "welcome", "")), fact(joiner, epoch),
		fact(epoch, derived(epoch, "init", "")), fact(epoch, derived(epoch, "confirm", "")), fact(epoch, apps), fact(epoch, export),
		fact(apps, app),
	}
	e = &era.Era{
		Frame:  era.Frame{Id: digest("found", context), Tree: api.Tree{Leaves: []api.Leaf{leaf}}, Said: said},
		Me:     me,
		Keys:   []api.Key{{Priv: priv}},
		Init:   rowOf(derived(epoch, "init", ""), 32),
		Apps:   []*ppr.Row{rowOf(app, 8)},
		Export: export,
	}
	e.Times[me-1] = 1
	return e, epoch, facts
}

// madeEra is what the chapter says of Make, where it isn't refused, and the facts of it.
func madeEra(f era.Frame, me int, known []api.Key, s keys.Secrets) (*era.Era, []api.Fact) {
	e := &era.Era{Frame: f, Me: me, Keys: keptOf(f.Tree, known), Init: rowOf(s.Init, 32), Export: s.Export}
	var facts []api.Fact
	for place, leaf := range f.Tree.Leaves {
		if leaf.Name == 0 {
			e.Apps = append(e.Apps, nil)
			continue
		}
		app := derived(s.Apps, "app", num(place))
		e.Apps = append(e.Apps, rowOf(app, 8))
		facts = append(facts, fact(s.Apps, app))
	}
	return e, facts
}

// keptOf are the keys that are those of a tree's nodes.
func keptOf(t api.Tree, known []api.Key) []api.Key {
	var kept []api.Key
	for x := range 2*len(t.Leaves) - 1 {
		for _, key := range known {
			if key.Node != x {
				continue
			}
			if x%2 == 0 && (t.Leaves[x/2].Name == 0 || t.Leaves[x/2].Pub != pubOf(key.Priv)) {
				continue
			}
			if x%2 == 1 && (!t.Parents[x/2].Set || t.Parents[x/2].Pub != pubOf(key.Priv)) {
				continue
			}
			kept = append(kept, key)
			break
		}
	}
	return kept
}

func rowOf(seed api.Hash, bits int) *ppr.Row {
	row, _ := ppr.New(seed, bits)
	return row
}

// secretsOf are what comes to light where an era does.
func secretsOf(e *era.Era) []api.Hash {
	var list []api.Hash
	for _, key := range e.Keys {
		list = append(list, key.Priv)
	}
	list = append(list, e.Init.Seeds()...)
	for _, row := range e.Apps {
		list = append(list, row.Seeds()...)
	}
	return append(list, e.Export)
}

// Keys, groups, and eras of them.

// key is the n-th of many keys.
func key(n int) api.Hash {
	var h api.Hash
	binary.BigEndian.PutUint64(h[8:], uint64(n)+1)
	h[0], h[31] = 0xa5, byte(n)
	return h
}

// leafKey is the secret key of the leaf that a name has.
func leafKey(name int) api.Hash { return key(1000 + name) }

func leafOf(name int) api.Leaf {
	return api.Leaf{Name: name, Pub: pubOf(leafKey(name)), Verify: key(2000 + name)}
}

// rollOf is a roll of n persons with two cards each; a leafKey is of the first.
func rollOf(n int) []api.Person {
	var roll []api.Person
	for name := 1; name <= n; name++ {
		leaf := leafOf(name)
		roll = append(roll, api.Person{Verify: leaf.Verify, Cards: []api.Card{{Init: key(3000 + name), Leaf: leaf.Pub}, {Leaf: pubOf(key(4000 + name))}}})
	}
	return roll
}

func secrets(n int) keys.Secrets {
	return keys.Secrets{Joiner: key(n), Welcome: key(n + 1), Epoch: key(n + 2), Init: key(n + 3), Confirm: key(n + 4), Apps: key(n + 5), Export: key(n + 6)}
}

// mixedTree is a tree of 7 leaves, the names 5, 33, 34, 4, none, 64, 3; the nodes 1, 3, 7 and 11 are Set, with the places 1, 1 and 2, 1 and 2, none loose; key(n) is the secret key of the node n.
func mixedTree() api.Tree {
	var t api.Tree
	for _, name := range []int{5, 2, 9, 4, 7, 64, 3} {
		t, _, _ = tree.Add(t, leafOf(name))
	}
	for _, place := range []int{1, 2, 4} {
		t, _ = tree.Remove(t, place)
	}
	t, _ = tree.Path(t, 0, pubOf(leafKey(5)), []api.Hash{pubOf(key(1)), pubOf(key(3)), pubOf(key(7))})
	t, _ = tree.Path(t, 6, pubOf(leafKey(3)), []api.Hash{pubOf(key(11)), pubOf(key(7))})
	t, _, _ = tree.Add(t, leafOf(33))
	t, _, _ = tree.Add(t, leafOf(34))
	return t
}

// mixedFrame is a frame of the mixedTree, each of its fields another than nought.
func mixedFrame() era.Frame {
	f := era.Frame{Id: key(51), Parent: key(52), Depth: 70, Tree: mixedTree(), Said: key(53)}
	for i := range f.Times {
		f.Times[i] = i * 3
	}
	return f
}

// mixedKnown are keys that who stands at the place 3 of the mixedTree may have, with others that it hasn't.
func mixedKnown() []api.Key {
	return []api.Key{
		{Node: 7, Priv: key(7)}, {Node: 3, Priv: key(1)}, {Node: 3, Priv: key(3)}, {Node: 6, Priv: leafKey(4)}, {Node: 7, Priv: key(7)},
		{Node: 5, Priv: key(5)}, {Node: 8, Priv: key(8)}, {Node: 13, Priv: key(13)}, {Node: -1, Priv: key(1)},
	}
}

// mixedEra is the era of the name 4 in the mixedFrame, some of whose rows' keys are gone.
func mixedEra(t *testing.T) *era.Era {
	t.Helper()
	e, err := era.Make(nil, mixedFrame(), 4, mixedKnown(), secrets(60))
	if err != api.OK {
		t.Fatalf("Make: %d", err)
	}
	e.Forks, e.Sent = 2, 3
	takeAll(e.Init, 7, 1<<32-1)
	takeAll(e.Apps[3], 0, 1, 2)
	takeAll(e.Apps[5], 255, 128)
	return e
}

func takeAll(row *ppr.Row, places ...int) {
	for _, place := range places {
		row.Take(nil, place)
	}
}

// wrongTrees are trees that aren't right.
func wrongTrees() map[string]api.Tree {
	trees := map[string]api.Tree{"a parent without leaves": {Parents: []api.Parent{{}}}, "a blank leaf": {Leaves: []api.Leaf{{}}}}
	for what, change := range map[string]func(t *api.Tree){
		"a parent too few":         func(t *api.Tree) { t.Parents = t.Parents[:5] },
		"the last leaf blank":      func(t *api.Tree) { t.Leaves[6] = api.Leaf{} },
		"a name twice":             func(t *api.Tree) { t.Leaves[0].Name = 3 },
		"a name too great":         func(t *api.Tree) { t.Leaves[0].Name = 65 },
		"a blank parent with keys": func(t *api.Tree) { t.Parents[0].Set = false },
		"a blank leaf with a key":  func(t *api.Tree) { t.Leaves[4].Pub = key(1) },
		"a blank leaf loose":       func(t *api.Tree) { t.Parents[3].Loose = []int{4} },
	} {
		t := mixedTree()
		change(&t)
		trees[what] = t
	}
	return trees
}

// anyGroup is a tree that came about by chance, and the keys of all its nodes.
func anyGroup(r *rand.Rand) (api.Tree, []api.Key) {
	var t api.Tree
	known := map[int]api.Hash{}
	for range 1 + r.Intn(64) {
		name := 1 + r.Intn(64)
		if made, place, err := tree.Add(t, leafOf(name)); err == api.OK {
			t, known[2*place] = made, leafKey(name)
		}
		if place := r.Intn(len(t.Leaves)); r.Intn(3) == 0 && len(t.Leaves) > 1 {
			if made, err := tree.Remove(t, place); err == api.OK {
				t = made
			}
		}
		var pubs []api.Hash
		for place, leaf := range t.Leaves {
			if leaf.Name != 0 && r.Intn(20) == 0 {
				for n := range 8 {
					made, err := tree.Path(t, place, leaf.Pub, pubs)
					if err == api.OK {
						t = made
						break
					}
					pubs = append(pubs, pubOf(key(n)))
				}
				break
			}
		}
	}
	var list []api.Key
	for node, priv := range known {
		list = append(list, api.Key{Node: node, Priv: priv})
	}
	for node := 1; node < 2*len(t.Leaves); node += 2 {
		for n := range 8 {
			list = append(list, api.Key{Node: node, Priv: key(n)})
		}
	}
	slices.SortStableFunc(list, func(a, b api.Key) int { return a.Node - b.Node })
	return t, list
}

// anyEra is an era that came about by chance, some of whose rows' keys are gone.
func anyEra(t *testing.T, r *rand.Rand) *era.Era {
	t.Helper()
	numbers := []int{0, 1, 63, 64, 1 << 14, 1 << 30, 1 << 40, api.MaxNum}
	group, known := anyGroup(r)
	f := era.Frame{Id: key(r.Int()), Parent: key(r.Int()), Depth: numbers[r.Intn(len(numbers))], Tree: group, Said: key(r.Int())}
	for i := range f.Times {
		f.Times[i] = numbers[r.Intn(len(numbers))]
	}
	names := tree.Names(group)
	e, err := era.Make(nil, f, names[r.Intn(len(names))], known, secrets(r.Int()))
	if err != api.OK {
		t.Fatalf("Make: %d", err)
	}
	e.Forks, e.Sent = r.Intn(33), r.Intn(257)
	for range e.Forks {
		e.Init.Take(nil, r.Intn(1<<32))
	}
	for _, row := range e.Apps {
		for range r.Intn(4) * r.Intn(100) {
			row.Take(nil, r.Intn(256))
		}
	}
	return e
}

// What calls answer, held against each other.

func alikeTrees(a, b api.Tree) bool {
	return slices.Equal(a.Leaves, b.Leaves) && slices.EqualFunc(a.Parents, b.Parents, func(p, q api.Parent) bool {
		return p.Set == q.Set && p.Pub == q.Pub && p.Above == q.Above && slices.Equal(p.Loose, q.Loose)
	})
}

func alikeRows(a, b *ppr.Row) bool { return a.Bits() == b.Bits() && a.Pack() == b.Pack() }

// unlike names what isn't alike in two eras; nothing, if all is.
func unlike(a, b *era.Era) string {
	if a == nil || b == nil {
		return fmt.Sprint("none: ", a == nil, ", ", b == nil)
	}
	var parts []string
	for name, same := range map[string]bool{
		"Id":     a.Id == b.Id,
		"Parent": a.Parent == b.Parent,
		"Depth":  a.Depth == b.Depth,
		"Tree":   alikeTrees(a.Tree, b.Tree),
		"Said":   a.Said == b.Said,
		"Times":  a.Times == b.Times,
		"Me":     a.Me == b.Me,
		"Keys":   slices.Equal(a.Keys, b.Keys),
		"Init":   alikeRows(a.Init, b.Init),
		"Forks":  a.Forks == b.Forks,
		"Apps":   slices.EqualFunc(a.Apps, b.Apps, alikeRows),
		"Sent":   a.Sent == b.Sent,
		"Export": a.Export == b.Export,
	} {
		if !same {
			parts = append(parts, name)
		}
	}
	slices.Sort(parts)
	return strings.Join(parts, ", ")
}

// wantAlike demands that two eras are alike, and have the same bytes and secrets.
func wantAlike(t *testing.T, what string, got, want *era.Era) {
	t.Helper()
	if bad := unlike(got, want); bad != "" {
		t.Errorf("%s: %s isn't alike", what, bad)
		return
	}
	if got.Pack() != want.Pack() || !slices.Equal(got.Secrets(), want.Secrets()) {
		t.Errorf("%s: eras alike have unlike bytes or secrets", what)
	}
}

// wantShape demands that an era has the rows that its frame asks for, and is of one of its members.
func wantShape(t *testing.T, what string, e *era.Era) {
	t.Helper()
	right := tree.Right(e.Tree) && e.Depth >= 0 && e.Depth <= api.MaxNum && e.Forks >= 0 && e.Sent >= 0
	right = right && slices.Min(e.Times[:]) >= 0 && slices.Max(e.Times[:]) <= api.MaxNum
	if !right || e.Place() < 0 || e.Tree.Leaves[e.Place()].Name != e.Me || e.Init.Bits() != 32 || len(e.Apps) != len(e.Tree.Leaves) {
		t.Errorf("%s: no era has these fields", what)
		return
	}
	for place, leaf := range e.Tree.Leaves {
		if bits := e.Apps[place].Bits(); bits != 8 && leaf.Name != 0 || bits != 0 && leaf.Name == 0 {
			t.Errorf("%s: at the leaf %d of the name %d a row of %d bits", what, place, leaf.Name, bits)
		}
	}
}

// wantFacts demands that the book has these facts and no other: noted once more, they are no more.
func wantFacts(t *testing.T, what string, b *book.Book, facts []api.Fact) {
	t.Helper()
	if b.Len() != len(facts) {
		t.Errorf("%s: the book has %d facts, want %d", what, b.Len(), len(facts))
	}
	before := b.Len()
	for i, f := range facts {
		b.Note(f)
		if b.Len() != before {
			t.Errorf("%s: the book hasn't the fact %d, %x makes %x", what, i, f.Ins[0][:4], f.Outs[0][:4])
			before = b.Len()
		}
	}
}

// wantNamed demands what an epoch's name names.
func wantNamed(t *testing.T, what string, b *book.Book, id, want api.Hash) {
	t.Helper()
	if h, ok := b.Named(fmt.Sprintf("epoch %x", id)); !ok || h != want {
		t.Errorf("%s: the epoch's name names %x, %t, want %x", what, h, ok, want)
	}
}

// Memory: what is handed in keeps what it has, spare room included, and no list of an answer has any of it.

// roomy is a list alike, with spare room behind it, in which mark stands.
func roomy[T any](list []T, mark T) []T {
	made := make([]T, len(list), len(list)+3)
	copy(made, list)
	for i := len(list); i < cap(made); i++ {
		made[:cap(made)][i] = mark
	}
	return made
}

func lentTree(t api.Tree) api.Tree {
	made := api.Tree{Leaves: roomy(t.Leaves, leafOf(77)), Parents: roomy(t.Parents, api.Parent{Set: true, Pub: key(7), Loose: []int{7}})}
	for i := range made.Parents[:cap(made.Parents)] {
		p := &made.Parents[:cap(made.Parents)][i]
		p.Loose = roomy(p.Loose, 777)
	}
	return made
}

func lentRoll(roll []api.Person) []api.Person {
	made := roomy(roll, api.Person{Verify: key(7)})
	for i := range made {
		made[i].Cards = roomy(made[i].Cards, api.Card{Init: key(7)})
	}
	return made
}

// block is the memory of a list or of a row.
type block struct {
	from, behind uintptr
	name         string
}

// blocks are those of all lists and rows in a value; what a row has within itself is its own package's matter.
func blocks(name string, v reflect.Value) []block {
	var found []block
	switch v.Kind() {
	case reflect.Pointer:
		if v.IsNil() {
			return nil
		}
		if v.Type() == reflect.TypeFor[*ppr.Row]() {
			return []block{{v.Pointer(), v.Pointer() + v.Type().Elem().Size(), name}}
		}
		return blocks(name, v.Elem())
	case reflect.Struct:
		for i := range v.NumField() {
			found = append(found, blocks(name+"."+v.Type().Field(i).Name, v.Field(i))...)
		}
	case reflect.Slice:
		if v.Cap() > 0 {
			found = append(found, block{v.Pointer(), v.Pointer() + uintptr(v.Cap())*v.Type().Elem().Size(), name})
		}
		whole := v.Slice(0, v.Cap())
		for i := range v.Cap() {
			found = append(found, blocks(fmt.Sprint(name, "[", i, "]"), whole.Index(i))...)
		}
	}
	return found
}

// wantApart demands that nothing in these values shares memory.
func wantApart(t *testing.T, what string, values map[string]any) {
	t.Helper()
	var found []block
	for name, v := range values {
		found = append(found, blocks(name, reflect.ValueOf(v))...)
	}
	slices.SortFunc(found, func(a, b block) int {
		if a.from < b.from {
			return -1
		}
		return 1
	})
	for i := 1; i < len(found); i++ {
		if found[i].from < found[i-1].behind {
			t.Errorf("%s: %s and %s share memory", what, found[i-1].name, found[i].name)
			return
		}
	}
}

// whole is all that lists have, spare room included, as a text.
func whole(values ...any) string {
	var b strings.Builder
	var put func(v reflect.Value)
	put = func(v reflect.Value) {
		switch v.Kind() {
		case reflect.Struct:
			for i := range v.NumField() {
				put(v.Field(i))
			}
		case reflect.Slice:
			fmt.Fprint(&b, "<", v.Len(), ",", v.Cap(), ":")
			for i := range v.Cap() {
				put(v.Slice(0, v.Cap()).Index(i))
			}
			b.WriteString(">")
		default:
			fmt.Fprintf(&b, "%v;", v)
		}
	}
	for _, v := range values {
		put(reflect.ValueOf(v))
	}
	return b.String()
}
