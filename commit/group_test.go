package commit_test

import (
	"cmp"
	"fmt"
	"math/rand"
	"slices"
	"testing"

	"bevy/api"
	"bevy/book"
	"bevy/change"
	"bevy/commit"
	"bevy/era"
	"bevy/prim"
	"bevy/tree"
)

// Promise 13.5: groups in which all hold together.

// group is the members of one epoch, each with an era of his own.
type group struct {
	b    *book.Book
	roll []api.Person
	eras map[int]*era.Era
	made int // how many keys it has made
}

// key is a new one.
func (g *group) key() api.Hash {
	g.made++
	return key(1_000_000 + g.made)
}

func founded(t *testing.T, b *book.Book, roll []api.Person, name int) *group {
	t.Helper()
	e, err := era.Found(b, roll, name, key(5), deckOf(name)[0].Leaf)
	if err != api.OK {
		t.Fatalf("Found: %d", err)
	}
	return &group{b: b, roll: roll, eras: map[int]*era.Era{name: e}}
}

// names are those of all members, rising.
func (g *group) names() []int {
	var list []int
	for name := range g.eras {
		list = append(list, name)
	}
	slices.Sort(list)
	return list
}

// any is the era of some member.
func (g *group) any() *era.Era { return g.eras[g.names()[0]] }

// fork is another group of the same members, in the same epoch.
func (g *group) fork() *group {
	made := &group{b: g.b, roll: g.roll, eras: map[int]*era.Era{}, made: g.made + 100_000}
	for name, e := range g.eras {
		made.eras[name] = e.Copy()
	}
	return made
}

// build has a member build a commit.
func (g *group) build(t *testing.T, by int, list ...api.Proposal) (api.Commit, *era.Era) {
	t.Helper()
	c, e, err := commit.Build(g.b, g.eras[by], g.roll, signer(by), list, g.key())
	if err != api.OK {
		t.Fatalf("Build by %d of %d proposals: %d", by, len(list), err)
	}
	return c, e
}

// take has all others take a commit in, by the keys that they asked to renew, and who comes join by it. The answer is the group of the epoch that it makes.
func (g *group) take(t *testing.T, c api.Commit, author *era.Era, renewed map[int]api.Hash) *group {
	t.Helper()
	next := &group{b: g.b, roll: g.roll, eras: map[int]*era.Era{c.Author: author}, made: g.made}
	for _, name := range g.names() {
		if name == c.Author {
			continue
		}
		var mine []api.Hash
		if priv, ok := renewed[name]; ok {
			mine = []api.Hash{key(1), priv, key(2)}
		}
		e, out, err := commit.Process(g.b, g.eras[name], g.roll, c, mine)
		if goes := goesBy(c, name); err != api.OK || out != goes || (e == nil) != goes {
			t.Fatalf("Process by %d: %t, %d, want %t", name, out, err, goes)
		}
		if !out {
			next.eras[name] = e
		}
	}
	for _, w := range c.Welcomes {
		e, err := commit.Join(g.b, w.Name, c, deckOf(w.Name))
		if err != api.OK {
			t.Fatalf("Join by %d: %d", w.Name, err)
		}
		next.eras[w.Name] = e
	}
	next.check(t, c)
	return next
}

func goesBy(c api.Commit, name int) bool {
	return slices.ContainsFunc(c.Proposals, func(p api.Proposal) bool { return p.Change.Kind == api.Remove && p.Change.Name == name })
}

// check demands that all have the same of the epoch that a commit made, and are its members.
func (g *group) check(t *testing.T, c api.Commit) {
	t.Helper()
	first := g.any()
	if first.Id != commit.Id(c) || first.Parent != c.Parent || first.Depth != c.Depth {
		t.Errorf("the epoch isn't the commit's")
	}
	for name, e := range g.eras {
		alike := e.Id == first.Id && e.Parent == first.Parent && e.Depth == first.Depth && e.Said == first.Said && e.Export == first.Export && e.Times == first.Times
		if !alike || tree.Pack(e.Tree) != tree.Pack(first.Tree) || e.Me != name {
			t.Errorf("%d has another epoch than %d", name, first.Me)
		}
		if e.Forks != 0 || e.Sent != 0 || e.Init.Pack() != first.Init.Pack() || len(e.Keys) == 0 {
			t.Errorf("%d begins with another row or without keys", name)
		}
	}
	if !slices.Equal(tree.Names(first.Tree), g.names()) {
		t.Errorf("members are %v, want %v", tree.Names(first.Tree), g.names())
	}
}

// commit goes on to the epoch that a member's commit makes.
func (g *group) commit(t *testing.T, by int, renewed map[int]api.Hash, list ...api.Proposal) *group {
	t.Helper()
	c, e := g.build(t, by, list...)
	return g.take(t, c, e, renewed)
}

// mixedGroup is the members 5, 2, 64, none, 7, 11, 33 at the places 0 to 6; the names 3, 4 and 9 were members once, and 11 is loose at nodes above it.
func mixedGroup(t *testing.T, b *book.Book) *group {
	t.Helper()
	g := founded(t, b, rollOf(64), 5)
	var list []api.Proposal
	for _, name := range []int{2, 3, 4, 7, 9, 33} {
		list = append(list, add(g.any(), 5, name))
	}
	g = g.commit(t, 5, nil, list...)
	g = g.commit(t, 4, nil)
	g = g.commit(t, 33, nil)
	g = g.commit(t, 7, nil, remove(g.any(), 2, 3), remove(g.any(), 9, 9))
	g = g.commit(t, 2, nil, add(g.any(), 5, 64))
	g = g.commit(t, 64, nil, add(g.any(), 33, 11))
	return g.commit(t, 5, nil, remove(g.any(), 4, 4))
}

func TestMixedGroup(t *testing.T) {
	g := mixedGroup(t, nil)
	var names []int
	loose := 0
	for _, leaf := range g.any().Tree.Leaves {
		names = append(names, leaf.Name)
	}
	for _, parent := range g.any().Tree.Parents {
		loose += len(parent.Loose)
	}
	if !slices.Equal(names, []int{5, 2, 64, 0, 7, 11, 33}) || loose == 0 {
		t.Fatalf("the leaves are of %v, %d are loose", names, loose)
	}
}

// anyList is a list that fits, committed by a member, and the keys of who asks for a new one.
func (g *group) anyList(r *rand.Rand, by, most int) ([]api.Proposal, map[int]api.Hash) {
	e := g.any()
	members := g.names()
	renewed := map[int]api.Hash{}
	var known []api.Proposal
	for range r.Intn(most + 1) {
		author := members[r.Intn(len(members))]
		switch kind := r.Intn(4); {
		case kind == 0 && author != by:
			if _, ok := renewed[author]; !ok {
				renewed[author] = g.key()
				known = append(known, update(e, author, renewed[author]))
			}
		case kind == 1 && len(members) > 3:
			known = append(known, remove(e, author, members[r.Intn(len(members))]))
		default:
			known = append(known, add(e, author, 1+r.Intn(len(g.roll))))
		}
	}
	return change.Pick(e.Tree, e.Times, g.roll, e.Id, e.Depth, by, known), renewed
}

// walk goes from epoch to epoch by lists that come about by chance.
func walk(t *testing.T, seed int64, steps, names, most int) {
	t.Helper()
	r := rand.New(rand.NewSource(seed))
	g := founded(t, nil, rollOf(names), 1+r.Intn(names))
	for range steps {
		members := g.names()
		by := members[r.Intn(len(members))]
		list, renewed := g.anyList(r, by, most)
		g = g.commit(t, by, renewed, list...)
		if t.Failed() {
			t.Fatalf("seed %d: at the depth %d", seed, g.any().Depth)
		}
	}
}

func TestWalksInSmallGroups(t *testing.T) {
	for seed := range int64(25) {
		walk(t, seed, 12, 3+int(seed%6), 4)
	}
}

func TestWalksInGreatGroups(t *testing.T) {
	if testing.Short() {
		t.Skip("takes seconds")
	}
	for seed := range int64(3) {
		walk(t, 100+seed, 10, 64, 20)
	}
}

// fullGroup is a group of the names from 1 on, each of whom can take in what others build.
func fullGroup(t *testing.T, n int) *group {
	t.Helper()
	g := founded(t, nil, rollOf(n), 1)
	for len(g.eras) < n {
		var list []api.Proposal
		for name := len(g.eras) + 1; name <= n && len(list) < api.MaxList; name++ {
			list = append(list, add(g.any(), 1, name))
		}
		g = g.commit(t, 1, nil, list...)
	}
	return g
}

func TestGroupOfAllNames(t *testing.T) {
	g := fullGroup(t, api.MaxName)
	g = g.commit(t, 64, nil, remove(g.any(), 3, 1), remove(g.any(), 3, 63))
	fresh := key(6)
	g = g.commit(t, 32, map[int]api.Hash{64: fresh}, update(g.any(), 64, fresh), add(g.any(), 2, 1), add(g.any(), 2, 63))
	if len(g.eras) != api.MaxName {
		t.Errorf("%d members", len(g.eras))
	}
}

// A list may be as long as there may be proposals, of each kind.
func TestLongestLists(t *testing.T) {
	g := fullGroup(t, 18)
	var list []api.Proposal
	renewed := map[int]api.Hash{}
	for name := 2; name <= 17; name++ {
		renewed[name] = g.key()
		list = append(list, update(g.any(), name, renewed[name]))
	}
	g = g.commit(t, 1, renewed, list...)
	list = nil
	for name := 2; name <= 17; name++ {
		list = append(list, remove(g.any(), 18, name))
	}
	g = g.commit(t, 18, nil, list...)
	list = nil
	for name := 2; name <= 17; name++ {
		list = append(list, add(g.any(), 1, name))
	}
	c, e := g.build(t, 18, list...)
	for i, w := range c.Welcomes {
		if w.Name != i+2 || w.Card != 1 {
			t.Errorf("the welcome %d is of %d, %d", i, w.Name, w.Card)
		}
	}
	g = g.take(t, c, e, nil)
	list = []api.Proposal{}
	for name := 2; name <= 18; name++ {
		list = append(list, remove(g.any(), 1, name))
	}
	if _, _, err := commit.Build(nil, g.eras[1], g.roll, signer(1), list, key(1)); err != api.ErrLong {
		t.Errorf("Build of 17 proposals: %d", err)
	}
}

// Several commits on one epoch.

// forked is a commit, with the era of who built it and the keys that are renewed by it.
type forked struct {
	c       api.Commit
	author  *era.Era
	renewed map[int]api.Hash
}

// forks has members build commits on one epoch, none of which anybody has taken in.
func (g *group) forks(t *testing.T, r *rand.Rand, n int) []forked {
	t.Helper()
	var made []forked
	for range n {
		members := g.names()
		by := members[r.Intn(len(members))]
		list, renewed := g.anyList(r, by, 3)
		c, e := g.build(t, by, list...)
		made = append(made, forked{c, e, renewed})
	}
	return made
}

func TestForksInAnyOrder(t *testing.T) {
	r := rand.New(rand.NewSource(13))
	for range 5 {
		g := mixedGroup(t, nil)
		all := g.forks(t, r, 6)
		nexts := make([]*group, len(all))
		for i, f := range all {
			nexts[i] = &group{roll: g.roll, eras: map[int]*era.Era{f.c.Author: f.author}}
		}
		for name, e := range g.eras {
			for _, i := range r.Perm(len(all)) {
				takeFork(t, g, nexts[i], all[i], name, e)
			}
			for _, f := range all {
				wantOnce(t, g, f, name, e)
			}
		}
		for i, f := range all {
			for _, w := range f.c.Welcomes {
				nexts[i].eras[w.Name], _ = commit.Join(nil, w.Name, f.c, deckOf(w.Name))
			}
			nexts[i].check(t, f.c)
		}
	}
}

// takeFork has a member of g take a commit in, whose epoch is next.
func takeFork(t *testing.T, g, next *group, f forked, name int, e *era.Era) {
	t.Helper()
	if f.c.Author == name {
		return
	}
	made, out, err := commit.Process(nil, e, g.roll, f.c, []api.Hash{f.renewed[name]})
	if err != api.OK || out != goesBy(f.c, name) {
		t.Errorf("Process by %d: %t, %d", name, out, err)
	}
	if err == api.OK && !out {
		next.eras[name] = made
	}
}

// wantOnce demands that a commit which a member has taken in, or built, isn't taken in once more.
func wantOnce(t *testing.T, g *group, f forked, name int, e *era.Era) {
	t.Helper()
	before := e.Pack()
	_, out, err := commit.Process(nil, e, g.roll, f.c, []api.Hash{f.renewed[name]})
	want := api.ErrSpent
	if f.c.Author == name {
		want = api.ErrArg
	}
	if goesBy(f.c, name) {
		want = api.OK // he has nothing to take
	}
	if err != want || out != goesBy(f.c, name) || e.Pack() != before {
		t.Errorf("Process by %d once more: %t, %d, want %d", name, out, err, want)
	}
}

func TestForksAreFull(t *testing.T) {
	g := mixedGroup(t, nil)
	r := rand.New(rand.NewSource(32))
	var all []forked
	for i := range api.MaxForks {
		by := []int{2, 7, 33}[i%3]
		c, e := g.build(t, by)
		all = append(all, forked{c: c, author: e})
	}
	e, first := g.eras[5], g.eras[5].Copy()
	for n, i := range r.Perm(len(all)) {
		made, _, err := commit.Process(nil, e, g.roll, all[i].c, nil)
		if err != api.OK || e.Forks != n+1 || made.Export != all[i].author.Export {
			t.Fatalf("Process of the commit %d: %d", n, err)
		}
	}
	more, _ := g.build(t, 64)
	if _, _, err := commit.Process(nil, e, g.roll, more, nil); err != api.ErrFull {
		t.Errorf("Process of one more: %d", err)
	}
	if _, _, err := commit.Build(nil, e, g.roll, signer(5), nil, key(1)); err != api.ErrFull {
		t.Errorf("Build of one more: %d", err)
	}
	if _, _, err := commit.Process(nil, first, g.roll, more, nil); err != api.OK {
		t.Errorf("Process of it alone: %d", err)
	}
}

// A member may build on an epoch, take in what others built, and build again.
func TestBuildAndTakeInTurns(t *testing.T) {
	g := mixedGroup(t, nil)
	one, by2 := g.build(t, 2, add(g.any(), 7, 3))
	two, by7 := g.build(t, 7, remove(g.any(), 5, 33))
	three, by2again := g.build(t, 2)
	a := g.fork().take(t, one, by2, nil)
	b := g.fork().take(t, two, by7, nil)
	c := g.take(t, three, by2again, nil)
	if a.any().Id == c.any().Id || a.any().Export == c.any().Export || b.any().Export == c.any().Export {
		t.Errorf("forks have the same epoch")
	}
	if len(a.eras) != 7 || len(b.eras) != 5 || len(c.eras) != 6 {
		t.Errorf("members: %v, %v, %v", a.names(), b.names(), c.names())
	}
}

// Each joins with the card that is his turn, and the cards end.
func TestEachCardOnce(t *testing.T) {
	g := founded(t, nil, rollOf(3), 1)
	g = g.commit(t, 1, nil, add(g.any(), 1, 3))
	for k := range cards {
		c, e := g.build(t, 1, add(g.any(), 1, 2))
		if c.Welcomes[0].Card != k || c.Welcomes[0].Name != 2 {
			t.Errorf("the welcome is of %d, %d, want the card %d", c.Welcomes[0].Name, c.Welcomes[0].Card, k)
		}
		g = g.take(t, c, e, nil)
		g = g.commit(t, 3, nil, remove(g.any(), 1, 2))
	}
	if _, _, err := commit.Build(nil, g.eras[1], g.roll, signer(1), []api.Proposal{add(g.any(), 1, 2)}, key(1)); err != api.ErrSpent {
		t.Errorf("Build without a card: %d", err)
	}
}

// What follows in the book.

// noteDeck notes the public keys of a name's cards, as who has them does.
func noteDeck(b *book.Book, name int) {
	for _, card := range deckOf(name) {
		prim.Pub(b, card.Init)
		prim.Pub(b, card.Leaf)
	}
}

func notedGroup(t *testing.T) *group {
	b := book.New()
	for name := 1; name <= 64; name++ {
		noteDeck(b, name)
	}
	return mixedGroup(t, b)
}

func TestWhoIsInShowsWhatOthersMake(t *testing.T) {
	g := notedGroup(t)
	ahead := g.fork()
	fresh := g.key()
	prim.Pub(g.b, fresh)
	next := g.commit(t, 7, map[int]api.Hash{2: fresh}, update(g.any(), 2, fresh), remove(g.any(), 5, 33), add(g.any(), 5, 3))
	export := next.any().Export
	for _, name := range ahead.names() {
		e := ahead.eras[name]
		// For who commits, and for who goes, nothing is wrapped; for who renews, not for the key that he has.
		if want := name != 7 && name != 33 && name != 2; g.b.Knows(export, e.Secrets()...) != want {
			t.Errorf("%d, who hasn't taken it in, shows the epoch behind: %t", name, !want)
		}
		if name == 2 && !g.b.Knows(export, append(e.Secrets(), fresh)...) {
			t.Errorf("with the new key %d doesn't show the epoch behind", name)
		}
		// What was taken in is gone: the epoch ahead shows what comes behind it no more.
		if name != 33 && g.b.Knows(export, append(g.eras[name].Secrets(), fresh)...) {
			t.Errorf("%d, who has taken it in, shows the epoch behind by the one ahead", name)
		}
	}
	for _, name := range next.names() {
		if !g.b.Knows(export, next.eras[name].Secrets()...) {
			t.Errorf("%d doesn't show the epoch that he is in", name)
		}
		if g.b.Knows(g.any().Export, next.eras[name].Secrets()...) {
			t.Errorf("%d shows the epoch ahead by the one that he is in", name)
		}
	}
}

func TestWhoComesShowsByHisCard(t *testing.T) {
	g := notedGroup(t)
	next := g.commit(t, 7, nil, add(g.any(), 5, 3), add(g.any(), 5, 4))
	for _, name := range []int{3, 4} {
		deck := deckOf(name)
		if !g.b.Knows(next.any().Export, deck[1].Init) {
			t.Errorf("the card of %d doesn't show the epoch", name)
		}
		for what, h := range map[string]api.Hash{"another card": deck[2].Init, "its leaf's key": deck[1].Leaf} {
			if g.b.Knows(next.any().Export, h) {
				t.Errorf("%s of %d shows the epoch", what, name)
			}
		}
		if g.b.Knows(g.any().Export, deck[1].Init) {
			t.Errorf("the card of %d shows the epoch ahead", name)
		}
	}
}

// Who commits heals: of what came to light of him ahead of it the epoch behind doesn't follow, once the commit's key is gone.
func TestWhoCommitsHeals(t *testing.T) {
	g := notedGroup(t)
	seen, once := g.eras[7].Secrets(), g.key()
	c, e, _ := commit.Build(g.b, g.eras[7], g.roll, signer(7), nil, once)
	next := g.take(t, c, e, nil)
	behind := next.commit(t, 5, nil)
	if !g.b.Knows(next.any().Export, append(seen, once)...) {
		t.Errorf("with what the commit is made of what was seen doesn't show the epoch")
	}
	for what, secrets := range map[string][]api.Hash{"what was seen": seen, "what the commit is made of": {once}, "who hears of it only": nil} {
		if g.b.Knows(next.any().Export, secrets...) || g.b.Knows(behind.any().Export, secrets...) {
			t.Errorf("%s shows what comes behind", what)
		}
	}
}

// Lists and keys by chance: whatever is handed in, an answer is one of those that there are, and nothing is changed beside an error.
func TestAnyLists(t *testing.T) {
	r := rand.New(rand.NewSource(77))
	g := mixedGroup(t, nil)
	for range 60 {
		by := g.names()[r.Intn(len(g.eras))]
		list, _ := g.anyList(r, by, 6)
		r.Shuffle(len(list), func(i, j int) { list[i], list[j] = list[j], list[i] })
		if r.Intn(3) == 0 && len(list) > 0 {
			list = append(list, list[r.Intn(len(list))])
		}
		e := g.eras[by].Copy()
		want := change.Fit(e.Tree, e.Times, g.roll, e.Id, e.Depth, by, list)
		c, made, err := commit.Build(nil, e, g.roll, signer(by), list, g.key())
		if err != want || (err != api.OK) != (made == nil) {
			t.Errorf("Build: %d, want %d", err, want)
		}
		if err != api.OK && (!isNone(c) || e.Pack() != g.eras[by].Pack()) {
			t.Errorf("Build refused with %d answers or changes something", err)
		}
		if !slices.IsSortedFunc(list, func(a, b api.Proposal) int { return cmp.Compare(order(a), order(b)) }) && err == api.OK {
			t.Errorf("Build takes a list out of order: %v", list)
		}
	}
}

func order(p api.Proposal) string {
	return fmt.Sprintf("%d %02d", map[int]int{api.Update: 1, api.Remove: 2, api.Add: 3}[p.Change.Kind], p.Change.Name)
}
