package change_test

import (
	"cmp"
	"crypto/hmac"
	"crypto/sha256"
	"encoding/binary"
	"fmt"
	"math"
	"math/rand"
	"reflect"
	"slices"
	"strings"
	"testing"

	"bevy/api"
	"bevy/change"
	"bevy/tree"
)

// The chapter's words, told once more: digests and signatures by the standard library alone; what is done to a tree is layer 8's, which its own tests hold.

func digest(parts ...string) api.Hash { return sha256.Sum256([]byte(strings.Join(parts, ""))) }

func text(h api.Hash) string { return string(h[:]) }

// num is a number as chapter 1 writes it.
func num(n int) string {
	for length := range 4 {
		size := 1 << length
		if uint64(n) < 1<<(8*size-2) {
			all := binary.BigEndian.AppendUint64(nil, uint64(n)|uint64(length)<<(8*size-2))
			return string(all[8-size:])
		}
	}
	panic("no number")
}

func verifyOf(priv api.Hash) api.Hash { return digest("ver", text(priv)) }

// fields are the parts of what is signed.
func fields(p api.Proposal) []string {
	c := p.Change
	return []string{text(p.Epoch), num(p.Depth), num(p.Author), num(p.Seq), num(c.Kind), num(c.Name), text(c.Pub)}
}

func signedText(p api.Proposal) string { return strings.Join(fields(p), "") }

func bytesOf(p api.Proposal) string { return signedText(p) + text(p.Sign) }

func signOf(verify api.Hash, p api.Proposal) api.Hash {
	c := hmac.New(sha256.New, verify[:])
	c.Write([]byte("sign" + signedText(p)))
	return api.Hash(c.Sum(nil))
}

func isName(n int) bool { return 1 <= n && n <= 64 }

func isRight(p api.Proposal) bool {
	c := p.Change
	numbers := 0 <= p.Depth && p.Depth < 1<<62 && isName(p.Author) && isName(c.Name) && 1 <= p.Seq && p.Seq < 1<<62
	isUpdate := c.Kind == 2 && c.Name == p.Author
	isOther := (c.Kind == 1 || c.Kind == 3) && c.Pub == api.Hash{}
	return numbers && (isUpdate || isOther)
}

// standing is where a kind stands in the order.
func standing(kind int) int {
	if at := slices.Index([]int{2, 3, 1}, kind); at >= 0 {
		return at
	}
	return 3
}

func isAhead(a, b api.Change) bool {
	if x, y := standing(a.Kind), standing(b.Kind); x != y {
		return x < y
	}
	return a.Name < b.Name
}

// state is where a list is to fit.
type state struct {
	tree      api.Tree
	times     api.Times
	roll      []api.Person
	epoch     api.Hash
	depth, by int
}

// fitOf is what the chapter says of Fit.
func fitOf(s state, list []api.Proposal) api.Errno {
	if !tree.Right(s.tree) {
		return api.ErrArg
	}
	if len(list) > 16 {
		return api.ErrLong
	}
	for i, p := range list {
		if e := fitsOf(s, list[:i], p); e != api.OK {
			return e
		}
	}
	return applyOf(s, list).e
}

// fitsOf is what the chapter says of one proposal, with those ahead of it.
func fitsOf(s state, ahead []api.Proposal, p api.Proposal) api.Errno {
	author := tree.Place(s.tree, p.Author)
	c := p.Change
	switch {
	case !isRight(p):
		return api.ErrForm
	case p.Epoch != s.epoch, p.Depth != s.depth:
		return api.ErrArg
	case author < 0:
		return api.ErrOut
	case p.Sign != signOf(s.tree.Leaves[author].Verify, p):
		return api.ErrSign
	case len(ahead) > 0 && !isAhead(ahead[len(ahead)-1].Change, c):
		return api.ErrList
	case slices.ContainsFunc(ahead, func(q api.Proposal) bool { return q.Change.Name == c.Name }):
		return api.ErrList
	case (c.Kind == 2 || c.Kind == 3) && c.Name == s.by:
		return api.ErrList
	}
	isMember := slices.Contains(tree.Names(s.tree), c.Name)
	switch {
	case c.Kind == 1 && isMember:
		return api.ErrThere
	case c.Kind == 1:
		_, e := cardOf(s, c.Name)
		return e
	case c.Kind == 3 && !isMember:
		return api.ErrNone
	}
	return api.OK
}

func cardOf(s state, name int) (api.Card, api.Errno) {
	if !isName(name) || name > len(s.roll) {
		return api.Card{}, api.ErrNone
	}
	cards, n := s.roll[name-1].Cards, s.times[name-1]
	if n < 0 || n >= len(cards) {
		return api.Card{}, api.ErrSpent
	}
	return cards[n], api.OK
}

// applied is what Apply answers.
type applied struct {
	tree  api.Tree
	times api.Times
	fresh []int
	e     api.Errno
}

// applyOf is what the chapter says of Apply.
func applyOf(s state, list []api.Proposal) applied {
	if !tree.Right(s.tree) {
		return applied{e: api.ErrArg}
	}
	made := applied{tree: s.tree, times: s.times}
	for _, p := range list {
		c := p.Change
		place := tree.Place(made.tree, c.Name)
		var e api.Errno
		switch c.Kind {
		case 2, 3:
			if place < 0 {
				return applied{e: api.ErrNone}
			}
			if c.Kind == 2 {
				made.tree, e = tree.Renew(made.tree, place, c.Pub)
			} else {
				made.tree, e = tree.Remove(made.tree, place)
			}
		case 1:
			card, err := cardOf(state{roll: s.roll, times: made.times}, c.Name)
			if err != api.OK {
				return applied{e: err}
			}
			made.tree, place, e = tree.Add(made.tree, api.Leaf{Name: c.Name, Pub: card.Leaf, Verify: s.roll[c.Name-1].Verify})
			if e == api.OK {
				made.times[c.Name-1]++
				made.fresh = append(made.fresh, place)
			}
		default:
			e = api.ErrNone
		}
		if e != api.OK {
			return applied{e: e}
		}
	}
	return made
}

// pickOf is what the chapter says of Pick.
func pickOf(s state, known []api.Proposal) []api.Proposal {
	list := slices.Clone(known)
	slices.SortStableFunc(list, func(a, b api.Proposal) int {
		if isAhead(a.Change, b.Change) {
			return -1
		}
		if isAhead(b.Change, a.Change) {
			return 1
		}
		return cmp.Compare(text(idOf(a)), text(idOf(b)))
	})
	var taken []api.Proposal
	for _, p := range list {
		if more := append(slices.Clone(taken), p); len(taken) < 16 && fitOf(s, more) == api.OK {
			taken = more
		}
	}
	return taken
}

func idOf(p api.Proposal) api.Hash {
	if !isRight(p) {
		return api.Hash{}
	}
	return digest("change", bytesOf(p))
}

// Keys, people, and who of them is a member.

// key is the n-th of many keys.
func key(n int) api.Hash {
	var h api.Hash
	binary.BigEndian.PutUint64(h[8:], uint64(n)+1)
	h[0], h[31] = 0xa5, byte(n)
	return h
}

// signer is the key with which a name signs.
func signer(name int) api.Hash { return key(1000 + name) }

// people is a roll of n names, each with so many cards.
func people(n, cards int) []api.Person {
	var roll []api.Person
	for name := 1; name <= n; name++ {
		p := api.Person{Verify: verifyOf(signer(name))}
		for i := range cards {
			p.Cards = append(p.Cards, api.Card{Init: key(100*name + i), Leaf: key(100*name + 50 + i)})
		}
		roll = append(roll, p)
	}
	return roll
}

// members is a group of these names, in an epoch of depth 3, with a roll of the names 1 to 64, two cards each; each was added once, and a parent is Set, with one place loose.
func members(names ...int) state {
	s := state{roll: people(64, 2), epoch: key(1), depth: 3}
	for i, name := range names {
		s.tree, _, _ = tree.Add(s.tree, api.Leaf{Name: name, Pub: key(3000 + name), Verify: verifyOf(signer(name)), Above: key(i)})
		s.times[name-1] = 1
	}
	if len(names) > 2 {
		s.tree.Parents[1] = api.Parent{Set: true, Pub: key(4000), Above: key(4001), Loose: []int{1}}
	}
	return s
}

// Proposals for the epoch of members.

func proposal(author, kind, name, seq int) api.Proposal {
	p := api.Proposal{Epoch: key(1), Depth: 3, Author: author, Seq: seq, Change: api.Change{Kind: kind, Name: name}}
	if kind == api.Update {
		p.Change.Pub = key(5000 + 100*name + seq)
	}
	return signed(p)
}

// signed is a proposal as its Author signs it, where it can be signed.
func signed(p api.Proposal) api.Proposal {
	if isRight(p) {
		p.Sign = signOf(verifyOf(signer(p.Author)), p)
	}
	return p
}

func add(author, name int) api.Proposal    { return proposal(author, api.Add, name, 1) }
func update(name int) api.Proposal         { return proposal(name, api.Update, name, 1) }
func remove(author, name int) api.Proposal { return proposal(author, api.Remove, name, 1) }

// wrongs are proposals that aren't right, by what is wrong with them.
func wrongs() map[string]api.Proposal {
	made := map[string]api.Proposal{"nothing": {}}
	for what, spoil := range map[string]func(p *api.Proposal){
		"Depth -1":           func(p *api.Proposal) { p.Depth = -1 },
		"Depth too great":    func(p *api.Proposal) { p.Depth = api.MaxNum + 1 },
		"the least Depth":    func(p *api.Proposal) { p.Depth = math.MinInt },
		"the greatest Depth": func(p *api.Proposal) { p.Depth = math.MaxInt },
		"Author 0":           func(p *api.Proposal) { p.Author = 0 },
		"Author -1":          func(p *api.Proposal) { p.Author = -1 },
		"Author 65":          func(p *api.Proposal) { p.Author = 65 },
		"Author far":         func(p *api.Proposal) { p.Author = 1<<32 + 2 },
		"Seq 0":              func(p *api.Proposal) { p.Seq = 0 },
		"Seq -1":             func(p *api.Proposal) { p.Seq = -1 },
		"Seq too great":      func(p *api.Proposal) { p.Seq = api.MaxNum + 1 },
		"the greatest Seq":   func(p *api.Proposal) { p.Seq = math.MaxInt },
		"Kind 0":             func(p *api.Proposal) { p.Change.Kind = 0 },
		"Kind 4":             func(p *api.Proposal) { p.Change.Kind = 4 },
		"Kind -1":            func(p *api.Proposal) { p.Change.Kind = -1 },
		"Kind far":           func(p *api.Proposal) { p.Change.Kind = 1<<32 + 3 },
		"Name 0":             func(p *api.Proposal) { p.Change.Name = 0 },
		"Name 65":            func(p *api.Proposal) { p.Change.Name = 65 },
		"Name -2":            func(p *api.Proposal) { p.Change.Name = -2 },
		"a Remove with Pub":  func(p *api.Proposal) { p.Change.Pub[31] = 1 },
		"an Add with Pub":    func(p *api.Proposal) { p.Change.Kind, p.Change.Pub[0] = api.Add, 1 },
		"another's Update":   func(p *api.Proposal) { p.Change.Kind = api.Update },
		"an Update of 65":    func(p *api.Proposal) { p.Change.Kind, p.Change.Name, p.Author = api.Update, 65, 65 },
	} {
		p := remove(1, 2)
		spoil(&p)
		made[what] = p
	}
	return made
}

// wrongTrees are trees that aren't right.
func wrongTrees() map[string]api.Tree {
	trees := map[string]api.Tree{"a parent without leaves": {Parents: []api.Parent{{}}}, "a blank leaf": {Leaves: []api.Leaf{{}}}}
	for what, spoil := range map[string]func(t *api.Tree){
		"a parent too few":         func(t *api.Tree) { t.Parents = t.Parents[:1] },
		"a leaf too few":           func(t *api.Tree) { t.Leaves = t.Leaves[:2] },
		"the last leaf blank":      func(t *api.Tree) { t.Leaves[2] = api.Leaf{} },
		"a name twice":             func(t *api.Tree) { t.Leaves[0].Name = 3 },
		"a name too great":         func(t *api.Tree) { t.Leaves[0].Name = 65 },
		"a blank parent with keys": func(t *api.Tree) { t.Parents[1].Set = false },
		"a place that isn't below": func(t *api.Tree) { t.Parents[0] = api.Parent{Set: true, Loose: []int{2}} },
	} {
		t := members(1, 2, 3).tree
		spoil(&t)
		trees[what] = t
	}
	return trees
}

// Memory: what is handed in keeps what it has, spare room included, and no list of an answer has any of it.

// roomy is a list alike, with spare room behind it, in which mark stands.
func roomy[T any](list []T, mark T) []T {
	made := make([]T, len(list), len(list)+3)
	copy(made, list)
	for i := len(list); i < cap(made); i++ {
		made[:cap(made)][i] = mark
	}
	return made
}

func lentTree(t api.Tree) api.Tree {
	made := api.Tree{Leaves: roomy(t.Leaves, api.Leaf{Name: 77}), Parents: roomy(t.Parents, api.Parent{Set: true, Pub: key(7), Loose: []int{7}})}
	for i := range made.Parents[:cap(made.Parents)] {
		p := &made.Parents[:cap(made.Parents)][i]
		p.Loose = roomy(p.Loose, 777)
	}
	return made
}

func lentState(s state) state {
	s.tree = lentTree(s.tree)
	s.roll = roomy(s.roll, api.Person{Verify: key(7)})
	for i := range s.roll[:cap(s.roll)] {
		p := &s.roll[:cap(s.roll)][i]
		p.Cards = roomy(p.Cards, api.Card{Leaf: key(7)})
	}
	return s
}

// block is the memory of a list, spare room included.
type block struct {
	from, behind uintptr
	list         string
}

// blocks are those of all lists in a value.
func blocks(name string, v reflect.Value) []block {
	var found []block
	switch v.Kind() {
	case reflect.Struct:
		for i := range v.NumField() {
			found = append(found, blocks(name+"."+v.Type().Field(i).Name, v.Field(i))...)
		}
	case reflect.Slice:
		if v.Cap() > 0 {
			found = append(found, block{v.Pointer(), v.Pointer() + uintptr(v.Cap())*v.Type().Elem().Size(), name})
		}
		whole := v.Slice(0, v.Cap())
		for i := range v.Cap() {
			found = append(found, blocks(fmt.Sprint(name, "[", i, "]"), whole.Index(i))...)
		}
	}
	return found
}

// wantApart demands that no two lists in these values share memory.
func wantApart(t *testing.T, what string, values map[string]any) {
	t.Helper()
	var found []block
	for name, v := range values {
		found = append(found, blocks(name, reflect.ValueOf(v))...)
	}
	slices.SortFunc(found, func(a, b block) int { return cmp.Compare(a.from, b.from) })
	for i := 1; i < len(found); i++ {
		if found[i].from < found[i-1].behind {
			t.Errorf("%s: %s and %s share memory", what, found[i-1].list, found[i].list)
			return
		}
	}
}

// whole is all that lists have, spare room included, as a text.
func whole(values ...any) string {
	var b strings.Builder
	var put func(v reflect.Value)
	put = func(v reflect.Value) {
		switch v.Kind() {
		case reflect.Struct:
			for i := range v.NumField() {
				put(v.Field(i))
			}
		case reflect.Slice:
			fmt.Fprint(&b, "<", v.Len(), ",", v.Cap(), ":")
			for i := range v.Cap() {
				put(v.Slice(0, v.Cap()).Index(i))
			}
			b.WriteString(">")
		case reflect.Array:
			fmt.Fprint(&b, text(v.Interface().(api.Hash)))
		default:
			fmt.Fprint(&b, v, ";")
		}
	}
	for _, v := range values {
		put(reflect.ValueOf(v))
	}
	return b.String()
}

// Calls, held against the chapter's words and what holds of memory.

func alikeTrees(a, b api.Tree) bool {
	return slices.Equal(a.Leaves, b.Leaves) && slices.EqualFunc(a.Parents, b.Parents, func(p, q api.Parent) bool {
		return p.Set == q.Set && p.Pub == q.Pub && p.Above == q.Above && slices.Equal(p.Loose, q.Loose)
	})
}

func alike(a, b applied) bool {
	return alikeTrees(a.tree, b.tree) && a.times == b.times && slices.Equal(a.fresh, b.fresh) && a.e == b.e
}

// told is a list in few signs: of each the author, the kind, the name, the number.
func told(list []api.Proposal) string {
	var parts []string
	for _, p := range list {
		parts = append(parts, fmt.Sprintf("%d:%d/%d#%d", p.Author, p.Change.Kind, p.Change.Name, p.Seq))
	}
	return "[" + strings.Join(parts, " ") + "]"
}

func (a applied) String() string {
	return fmt.Sprintf("error %d, members %v, times %v, fresh %v", a.e, tree.Names(a.tree), a.times[:8], a.fresh)
}

// wantFit demands an error of Fit, and that the chapter's words tell the same.
func wantFit(t *testing.T, what string, want api.Errno, s state, list ...api.Proposal) {
	t.Helper()
	s, list = lentState(s), roomy(list, proposal(1, api.Remove, 1, 77))
	before := whole(s.tree, s.roll, list)
	got := change.Fit(s.tree, s.times, s.roll, s.epoch, s.depth, s.by, list)
	if before != whole(s.tree, s.roll, list) {
		t.Errorf("%s: Fit changes what was handed in", what)
	}
	if model := fitOf(s, list); got != want || model != want {
		t.Errorf("%s: Fit of %s = %d, and %d by the words, want %d", what, told(list), got, model, want)
	}
}

// wantApplied demands of Apply what the chapter says.
func wantApplied(t *testing.T, what string, s state, list ...api.Proposal) applied {
	t.Helper()
	s, list = lentState(s), roomy(list, proposal(1, api.Remove, 1, 77))
	before := whole(s.tree, s.roll, list)
	var a, again applied
	a.tree, a.times, a.fresh, a.e = change.Apply(s.tree, s.times, s.roll, list)
	again.tree, again.times, again.fresh, again.e = change.Apply(s.tree, s.times, s.roll, list)
	if before != whole(s.tree, s.roll, list) {
		t.Errorf("%s: Apply changes what was handed in", what)
	}
	if want := applyOf(s, list); !alike(a, want) || !alike(a, again) {
		t.Errorf("%s: Apply of %s: %v, then %v, want %v", what, told(list), a, again, want)
	}
	wantApart(t, what, map[string]any{"t": s.tree, "roll": s.roll, "list": list, "the tree": a.tree, "fresh": a.fresh, "another tree": again.tree, "another fresh": again.fresh})
	return a
}

// wantPicked demands of Pick what the chapter says.
func wantPicked(t *testing.T, what string, s state, known ...api.Proposal) []api.Proposal {
	t.Helper()
	s, known = lentState(s), roomy(known, proposal(1, api.Remove, 1, 77))
	before := whole(s.tree, s.roll, known)
	got := change.Pick(s.tree, s.times, s.roll, s.epoch, s.depth, s.by, known)
	again := change.Pick(s.tree, s.times, s.roll, s.epoch, s.depth, s.by, known)
	if before != whole(s.tree, s.roll, known) {
		t.Errorf("%s: Pick changes what was handed in", what)
	}
	if want := pickOf(s, known); !slices.Equal(got, want) || !slices.Equal(again, want) {
		t.Errorf("%s: Pick of %s = %s, then %s, want %s", what, told(known), told(got), told(again), told(want))
	}
	wantApart(t, what, map[string]any{"t": s.tree, "roll": s.roll, "known": known, "the answer": got, "another answer": again})
	return got
}

// randomState is a group of some of the names 1 to 7, of a roll of some more, with any times.
func randomState(r *rand.Rand) state {
	s := state{epoch: key(1), depth: 3, by: r.Intn(9)}
	for name := 1; name <= 5+r.Intn(6); name++ {
		p := people(name, r.Intn(4))[name-1]
		s.roll = append(s.roll, p)
	}
	for _, name := range r.Perm(7)[:r.Intn(8)] {
		s.tree, _, _ = tree.Add(s.tree, api.Leaf{Name: name + 1, Pub: key(r.Intn(99)), Verify: verifyOf(signer(name + 1))})
	}
	for i := range s.times {
		s.times[i] = r.Intn(5) - 1
	}
	return s
}

// randomProposal is one that mostly is right and signed.
func randomProposal(r *rand.Rand) api.Proposal {
	kind := 1 + r.Intn(3)
	author, name := 1+r.Intn(7), 1+r.Intn(12)
	if kind == api.Update {
		name = author
	}
	p := proposal(author, kind, name, 1+r.Intn(2))
	switch r.Intn(40) {
	case 0:
		p.Change.Kind = r.Intn(6) - 1
	case 1:
		p.Change.Name = r.Intn(3) - 1
	case 2:
		p = signed(api.Proposal{Epoch: key(r.Intn(2)), Depth: 3 + r.Intn(2), Author: author, Seq: 1, Change: p.Change})
	case 3:
		p.Sign[r.Intn(32)] ^= 1
	case 4:
		p.Seq = 0
	}
	return p
}
