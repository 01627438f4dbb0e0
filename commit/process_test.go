package commit_test

import (
	"fmt"
	"math"
	"slices"
	"strings"
	"testing"

	"bevy/api"
	"bevy/book"
	"bevy/climb"
	"bevy/commit"
	"bevy/era"
	"bevy/tree"
)

// Promise 13.3: Process.

// leafOf is the secret key of the leaf at which an era's Me stands.
func leafOf(e *era.Era) api.Hash {
	for _, k := range e.Keys {
		if k.Node == 2*e.Place() {
			return k.Priv
		}
	}
	return api.Hash{}
}

// wantProcessed demands of Process what the chapter says of it, and that just that is noted. Leaf is the key of the own leaf, as it is once the proposals are applied.
func wantProcessed(t *testing.T, what string, e *era.Era, roll []api.Person, c api.Commit, mine []api.Hash, leaf api.Hash) *era.Era {
	t.Helper()
	before, twin := e.Copy(), e.Copy()
	want := processedOf(nil, before, roll, c, leaf)
	b, people, handed, some := book.New(), lentRoll(roll), lentCommit(c), roomy(mine, key(7))
	lists := whole(people, handed, some)
	made, out, err := commit.Process(b, e, people, handed, some)
	again, out2, err2 := commit.Process(nil, twin, people, handed, some)
	if err != api.OK || err2 != api.OK || out || out2 {
		t.Fatalf("%s: Process: %t, %d, without a book %t, %d", what, out, err, out2, err2)
	}
	wantEra(t, what, made, want)
	wantEra(t, what+", without a book", again, want)
	wantSpent(t, what, before, e, c)
	wantNoted(t, what, b, made.Id, func(b *book.Book) { processedOf(b, before, roll, c, leaf) })
	if whole(people, handed, some) != lists {
		t.Errorf("%s: Process changes what was handed in", what)
	}
	wantApart(t, what, map[string]any{"roll": people, "c": handed, "mine": some, "e": e, "its twin": twin, "the era": made, "another era": again})
	return made
}

func TestProcess(t *testing.T) {
	g := mixedGroup(t, nil)
	renewed := map[int]api.Hash{2: key(71), 33: key(72)}
	for _, by := range []int{5, 7, 64} {
		for what, list := range lists(g.any()) {
			if what == "some keys noughts" {
				continue // nobody has the secret key of that
			}
			c, author := g.fork().build(t, by, list...)
			for _, name := range g.names() {
				if name == by || goesBy(c, name) {
					continue
				}
				e := g.eras[name].Copy()
				mine, leaf := []api.Hash{key(1), key(71), key(72)}, leafOf(e)
				if slices.ContainsFunc(list, func(p api.Proposal) bool { return p.Change.Kind == api.Update && p.Change.Name == name }) {
					leaf = renewed[name]
				}
				made := wantProcessed(t, fmt.Sprint(what, " by ", by, ", taken in by ", name), e, g.roll, c, mine, leaf)
				if made.Export != author.Export || leafOf(made) != leaf {
					t.Errorf("%s by %d: %d has another epoch", what, by, name)
				}
			}
		}
	}
}

// Who goes is told so, and has no epoch; nothing changes for him.
func TestProcessByWhoGoes(t *testing.T) {
	g := mixedGroup(t, nil)
	c, _ := g.build(t, 7, remove(g.any(), 5, 11), remove(g.any(), 33, 33), add(g.any(), 5, 3))
	for _, name := range []int{11, 33} {
		e := g.eras[name]
		for what, n := range map[string]int{"no forks": 0, "all forks": 32} {
			e.Forks = n
			before := e.Pack()
			b := book.New()
			made, out, err := commit.Process(b, e, g.roll, c, nil)
			if made != nil || !out || err != api.OK {
				t.Errorf("%s: Process by %d: %t, %d", what, name, out, err)
			}
			if e.Pack() != before {
				t.Errorf("%s: Process by %d, who goes, changes the era", what, name)
			}
			if _, ok := b.Named(fmt.Sprintf("epoch %x", commit.Id(c))); ok || b.Len() != 0 {
				t.Errorf("%s: %d, who goes, comes to know something", what, name)
			}
		}
	}
}

// Process's errors.

// processing is all that is handed to Process.
type processing struct {
	e, author *era.Era
	roll      []api.Person
	c         api.Commit
	mine      []api.Hash
	priv      api.Hash // by which the commit is signed
	spent     bool     // the key at the spot is gone
}

// newProcessing is a commit of 2, by which 7 renews and 3 comes, taken in by 7.
func newProcessing(t *testing.T, g *group) processing {
	t.Helper()
	author := g.eras[2].Copy()
	c, _, err := commit.Build(nil, author, g.roll, signer(2), []api.Proposal{update(author, 7, key(71)), add(author, 5, 3)}, key(1))
	if err != api.OK {
		t.Fatalf("Build: %d", err)
	}
	return processing{e: g.eras[7].Copy(), author: author, roll: g.roll, c: lentCommit(c), mine: []api.Hash{key(71)}, priv: signer(2)}
}

type processFault struct {
	what string
	want api.Errno
	make func(x *processing)
}

// processFaults are all that may be wrong, in the chapter's order. One of them isn't an error: Me goes.
func processFaults() []processFault {
	return []processFault{
		{"no era", api.ErrArg, func(x *processing) { x.e = nil }},
		{"not right", api.ErrForm, func(x *processing) { x.c.Info = strings.Repeat("x", 65537) }},
		{"of another epoch", api.ErrNone, func(x *processing) { x.c.Parent[0]++ }},
		{"of another depth", api.ErrDepth, func(x *processing) { x.c.Depth++ }},
		{"of nobody", api.ErrOut, func(x *processing) { x.c.Author = 9 }},
		{"not signed", api.ErrSign, func(x *processing) { x.priv = signer(7) }},
		{"of Me", api.ErrArg, func(x *processing) { x.e = x.author }},
		{"a list that doesn't fit", api.ErrThere, func(x *processing) { x.c.Proposals = append(x.c.Proposals, add(x.author, 2, 64)) }},
		{"no welcome", api.ErrList, func(x *processing) { x.c.Welcomes = nil }},
		{"Me goes", api.OK, func(x *processing) { x.c.Proposals[0] = remove(x.author, 5, 7) }},
		{"no fork left", api.ErrFull, func(x *processing) { x.e.Forks = 32 }},
		{"no key of the leaf", api.ErrSpent, func(x *processing) { x.mine = []api.Hash{key(72)} }},
		{"a rung fewer", api.ErrPath, func(x *processing) { x.c.Path = x.c.Path[:2] }},
		{"a wrap that doesn't open", api.ErrSeal, func(x *processing) { x.c.Path[len(x.c.Path)-1].Wraps[0] += "x" }},
		{"another Above", api.ErrPath, func(x *processing) { x.c.Above[0]++ }},
		{"no key left", api.ErrSpent, func(x *processing) { x.spent = true }},
		{"another tag", api.ErrTag, func(x *processing) { x.c.Tag[0]++ }},
	}
}

// ready signs the commit and takes the key at its spot, as is asked for.
func (x *processing) ready() {
	x.c = signedBy(x.c, x.priv)
	if x.spent && x.e != nil {
		x.e.Init.Take(nil, spotOf(coreOf(x.c)))
	}
}

func wantNotProcessed(t *testing.T, what string, want api.Errno, x processing) {
	t.Helper()
	x.ready()
	before := x.e.Pack()
	made, out, err := commit.Process(book.New(), x.e, x.roll, x.c, x.mine)
	if err != want || made != nil || out != (want == api.OK) {
		t.Errorf("%s: Process: %t, %d, want %d, with nothing: %t", what, out, err, want, made == nil)
	}
	if x.e.Pack() != before {
		t.Errorf("%s: Process refused changes the era", what)
	}
}

func TestProcessRefuses(t *testing.T) {
	g := mixedGroup(t, nil)
	x := newProcessing(t, g)
	x.ready()
	if _, out, err := commit.Process(nil, x.e, x.roll, x.c, x.mine); err != api.OK || out {
		t.Fatalf("Process of what is spoilt below: %t, %d", out, err)
	}
	all := processFaults()
	for i, first := range all {
		x := newProcessing(t, g)
		first.make(&x)
		wantNotProcessed(t, first.what, first.want, x)
		for _, second := range all[i+1:] {
			x := newProcessing(t, g)
			second.make(&x)
			first.make(&x)
			wantNotProcessed(t, first.what+", "+second.what, first.want, x)
		}
	}
}

// wantChangedRefused demands an error of a commit that is changed and signed anew.
func wantChangedRefused(t *testing.T, g *group, what string, want api.Errno, change func(x *processing)) {
	t.Helper()
	x := newProcessing(t, g)
	change(&x)
	wantNotProcessed(t, what, want, x)
}

func TestProcessOfAnotherEpoch(t *testing.T) {
	g := mixedGroup(t, nil)
	wantChangedRefused(t, g, "the one behind", api.ErrNone, func(x *processing) { x.c.Parent = idOf(x.c) })
	wantChangedRefused(t, g, "the one ahead", api.ErrNone, func(x *processing) { x.c.Parent = x.e.Parent })
	for _, n := range []int{1, -1, 100} {
		wantChangedRefused(t, g, "the depth", api.ErrDepth, func(x *processing) { x.c.Depth += n })
	}
	wantChangedRefused(t, g, "its own depth", api.ErrDepth, func(x *processing) { x.c.Depth = x.e.Depth })
	wantChangedRefused(t, g, "the greatest depth", api.ErrDepth, func(x *processing) { x.e.Depth, x.c.Depth = api.MaxNum, api.MaxNum })
	for what, n := range map[string]int{"none": 0, "-1": -1, "beyond": math.MinInt} {
		wantChangedRefused(t, g, "the depth "+what, api.ErrForm, func(x *processing) { x.c.Depth = n })
	}
}

func TestProcessOfAnotherSignature(t *testing.T) {
	g := mixedGroup(t, nil)
	for name := range 64 {
		if name != 2 {
			wantChangedRefused(t, g, "another's", api.ErrSign, func(x *processing) { x.priv = signer(name) })
		}
	}
	// Nothing of what is signed can be changed.
	for what, change := range map[string]func(c *api.Commit){
		"Leaf":               func(c *api.Commit) { c.Leaf[0]++ },
		"Above":              func(c *api.Commit) { c.Above[0]++ },
		"a proposal":         func(c *api.Commit) { c.Proposals[0].Seq++ },
		"a rung":             func(c *api.Commit) { c.Path[0].Pub[0]++ },
		"Info":               func(c *api.Commit) { c.Info += "x" },
		"a welcome":          func(c *api.Commit) { c.Welcomes[0].Card++ },
		"a welcome's wrap":   func(c *api.Commit) { c.Welcomes[0].Wrap = "" },
		"no welcome":         func(c *api.Commit) { c.Welcomes = nil },
		"Tag":                func(c *api.Commit) { c.Tag[31]++ },
		"Sign":               func(c *api.Commit) { c.Sign[31]++ },
		"the author":         func(c *api.Commit) { c.Author = 5 },
		"the author is Me":   func(c *api.Commit) { c.Author = 7 },
		"another's Sign":     func(c *api.Commit) { *c = signedBy(*c, signer(5)) },
		"the check key's":    func(c *api.Commit) { *c = signedBy(*c, verifyOf(signer(2))) },
		"a proposal's Sign":  func(c *api.Commit) { c.Proposals[0].Sign[0]++ },
		"a proposal is gone": func(c *api.Commit) { c.Proposals = c.Proposals[1:] },
	} {
		x := newProcessing(t, g)
		x.ready()
		change(&x.c)
		before := x.e.Pack()
		if made, out, err := commit.Process(nil, x.e, x.roll, x.c, x.mine); err != api.ErrSign || out || made != nil || x.e.Pack() != before {
			t.Errorf("%s: Process: %t, %d", what, out, err)
		}
	}
	// It is the leaf that counts, whatever the roll tells.
	x := newProcessing(t, g)
	x.roll = slices.Clone(x.roll)
	x.roll[1].Verify = verifyOf(signer(8))
	x.ready()
	if _, _, err := commit.Process(nil, x.e, x.roll, x.c, x.mine); err != api.OK {
		t.Errorf("Process with another roll: %d", err)
	}
}

// The list fits by the Author, who need not be the one who takes it in.
func TestProcessOfListsThatDoNotFit(t *testing.T) {
	g := mixedGroup(t, nil)
	x := newProcessing(t, g)
	e := x.author
	other := e.Copy()
	other.Id[0]++
	unsigned := add(e, 2, 3)
	unsigned.Sign[0]++
	for what, y := range map[string]struct {
		list []api.Proposal
		want api.Errno
	}{
		"another epoch":     {[]api.Proposal{add(other, 2, 3)}, api.ErrArg},
		"of nobody":         {[]api.Proposal{add(e, 9, 3)}, api.ErrOut},
		"not signed":        {[]api.Proposal{unsigned}, api.ErrSign},
		"out of order":      {[]api.Proposal{add(e, 5, 3), update(e, 7, key(71))}, api.ErrList},
		"the author renews": {[]api.Proposal{update(e, 2, key(1))}, api.ErrList},
		"the author goes":   {[]api.Proposal{remove(e, 5, 2)}, api.ErrList},
		"a member comes":    {[]api.Proposal{add(e, 2, 5)}, api.ErrThere},
		"nobody goes":       {[]api.Proposal{remove(e, 2, 9)}, api.ErrNone},
	} {
		wantChangedRefused(t, g, what, y.want, func(x *processing) { x.c.Proposals = y.list })
	}
	wantChangedRefused(t, g, "the roll hasn't him", api.ErrNone, func(x *processing) { x.roll = x.roll[:2] })
	wantChangedRefused(t, g, "no card", api.ErrSpent, func(x *processing) { x.e.Times[2] = cards })
}

func TestProcessOfOtherWelcomes(t *testing.T) {
	g := mixedGroup(t, nil)
	refused := func(what string, change func(c *api.Commit)) {
		t.Helper()
		wantChangedRefused(t, g, what, api.ErrList, func(x *processing) { change(&x.c) })
	}
	refused("another name", func(c *api.Commit) { c.Welcomes[0].Name = 4 })
	refused("another card", func(c *api.Commit) { c.Welcomes[0].Card = 0 })
	refused("the next card", func(c *api.Commit) { c.Welcomes[0].Card = 2 })
	refused("none", func(c *api.Commit) { c.Welcomes = nil })
	refused("twice", func(c *api.Commit) { c.Welcomes = append(c.Welcomes, c.Welcomes[0]) })
	refused("one more", func(c *api.Commit) { c.Welcomes = append(c.Welcomes, api.Welcome{Name: 4, Card: 1}) })
	refused("of who renews", func(c *api.Commit) { c.Welcomes[0].Name, c.Welcomes[0].Card = 7, 1 })
	// Two who come: in the order of the proposals.
	e := g.eras[2].Copy()
	c, _, _ := commit.Build(nil, e, g.roll, signer(2), []api.Proposal{add(e, 5, 3), add(e, 5, 10)}, key(1))
	slices.Reverse(c.Welcomes)
	wantNotProcessed(t, "out of order", api.ErrList, processing{e: g.eras[7].Copy(), roll: g.roll, c: c, priv: signer(2)})
	c.Welcomes = c.Welcomes[1:]
	wantNotProcessed(t, "one fewer", api.ErrList, processing{e: g.eras[7].Copy(), roll: g.roll, c: c, priv: signer(2)})
	// The times that count are those of who takes it in.
	wantChangedRefused(t, g, "other times", api.ErrList, func(x *processing) { x.e.Times[2] = 2 })
	// What is wrapped in them only who comes can tell.
	x := newProcessing(t, g)
	x.c.Welcomes[0].Wrap = "whatever"
	x.ready()
	if _, _, err := commit.Process(nil, x.e, x.roll, x.c, x.mine); err != api.OK {
		t.Errorf("Process with another wrap of a welcome: %d", err)
	}
}

func TestProcessFull(t *testing.T) {
	g := mixedGroup(t, nil)
	for _, n := range []int{32, 33, math.MaxInt} {
		wantChangedRefused(t, g, "Forks", api.ErrFull, func(x *processing) { x.e.Forks = n })
	}
	x := newProcessing(t, g)
	x.e.Forks = 31
	x.ready()
	wantProcessed(t, "the last fork", x.e, x.roll, x.c, x.mine, key(71))
}

// The key of a leaf that is renewed is sought among those that were asked for alone.
func TestProcessByWhoRenews(t *testing.T) {
	g := mixedGroup(t, nil)
	for what, mine := range map[string][]api.Hash{"none": nil, "others": {key(70), {}, key(72)}, "its public one": {pubOf(key(71))}} {
		wantChangedRefused(t, g, what, api.ErrSpent, func(x *processing) { x.mine = mine })
	}
	for what, mine := range map[string][]api.Hash{"first": {key(71), key(70)}, "last": {key(70), {}, key(71)}, "twice": {key(71), key(71)}} {
		x := newProcessing(t, g)
		x.ready()
		wantProcessed(t, what, x.e, x.roll, x.c, mine, key(71))
	}
	// The key that the leaf has, asked for anew: it counts as any other.
	own := leafOf(g.eras[7])
	e := g.eras[2].Copy()
	c, _, _ := commit.Build(nil, e, g.roll, signer(2), []api.Proposal{update(e, 7, own)}, key(1))
	wantNotProcessed(t, "the leaf's own", api.ErrSpent, processing{e: g.eras[7].Copy(), roll: g.roll, c: c, priv: signer(2)})
	wantProcessed(t, "the leaf's own", g.eras[7].Copy(), g.roll, signedBy(c, signer(2)), []api.Hash{own}, own)
	// Who doesn't renew needs none.
	x := newProcessing(t, g)
	x.ready()
	wantProcessed(t, "another one", g.eras[5].Copy(), x.roll, x.c, nil, leafOf(g.eras[5]))
}

// A key that a leaf had ahead of its renewal doesn't stand in the way of the new one, nor is it kept.
func TestProcessForgetsTheOldKey(t *testing.T) {
	g := mixedGroup(t, nil)
	x := newProcessing(t, g)
	x.ready()
	old := leafOf(x.e)
	made := wantProcessed(t, "who renews", x.e, x.roll, x.c, x.mine, key(71))
	if slices.ContainsFunc(made.Keys, func(k api.Key) bool { return k.Priv == old }) || leafOf(made) != key(71) {
		t.Errorf("the old key is kept")
	}
}

func TestProcessOfOtherPaths(t *testing.T) {
	g := mixedGroup(t, nil)
	refused := func(what string, want api.Errno, change func(c *api.Commit)) {
		t.Helper()
		wantChangedRefused(t, g, what, want, func(x *processing) { change(&x.c) })
	}
	refused("a rung fewer", api.ErrPath, func(c *api.Commit) { c.Path = c.Path[1:] })
	refused("none", api.ErrPath, func(c *api.Commit) { c.Path = nil })
	refused("a rung more", api.ErrPath, func(c *api.Commit) { c.Path = append(c.Path, api.Rung{}) })
	refused("a wrap fewer", api.ErrPath, func(c *api.Commit) { c.Path[0].Wraps = nil })
	refused("a wrap more", api.ErrPath, func(c *api.Commit) { c.Path[0].Wraps = append(c.Path[0].Wraps, "") })
	refused("a wrap for who comes", api.ErrPath, func(c *api.Commit) { c.Path[1].Wraps = append(c.Path[1].Wraps, "") })
	refused("another key at the root", api.ErrPath, func(c *api.Commit) { c.Path[2].Pub[0]++ })
	refused("another key below mine", api.ErrPath, func(c *api.Commit) { c.Path[0].Pub[0]++ }) // by the Above of the leaf
	refused("another key of the leaf", api.ErrTag, func(c *api.Commit) { c.Leaf[0]++ })
	refused("another Above", api.ErrPath, func(c *api.Commit) { c.Above[31]++ })
	refused("Above noughts", api.ErrPath, func(c *api.Commit) { c.Above = api.Hash{} })
	for at := range newProcessing(t, g).c.Path[2].Wraps {
		want := api.ErrTag // another's wrap is in the core alone
		if at == 0 {
			want = api.ErrShort
		}
		refused(fmt.Sprint("the wrap ", at), want, func(c *api.Commit) { c.Path[2].Wraps[at] = "short" })
	}
	// What Me's wrap has.
	wrap := func(plain, about string) string { return wrapOf(pubOf(key(71)), key(5), about, plain) }
	refused("31 bytes", api.ErrForm, func(c *api.Commit) { c.Path[2].Wraps[0] = wrap(strings.Repeat("x", 31), text(c.Parent)) })
	refused("33 bytes", api.ErrForm, func(c *api.Commit) { c.Path[2].Wraps[0] = wrap(strings.Repeat("x", 33), text(c.Parent)) })
	refused("another secret", api.ErrPath, func(c *api.Commit) { c.Path[2].Wraps[0] = wrap(strings.Repeat("x", 32), text(c.Parent)) })
	refused("about another text", api.ErrSeal, func(c *api.Commit) { c.Path[2].Wraps[0] = wrap(strings.Repeat("x", 32), "") })
	c, _ := g.build(t, 2)
	e := g.eras[7].Copy()
	e.Keys = nil
	wantNotProcessed(t, "no keys at all", api.ErrSpent, processing{e: e, roll: g.roll, c: c, priv: signer(2)})
}

// What is fresh comes to know by a welcome: nothing is wrapped for it, though it stands beside the climb.
func TestProcessLeavesOutWhoComes(t *testing.T) {
	g := mixedGroup(t, nil)
	x := newProcessing(t, g)
	fresh := placeOf(x.author.Tree, 0) // the blank leaf, where 3 comes to stand
	wraps := 0
	for _, rung := range x.c.Path {
		wraps += len(rung.Wraps)
	}
	t2, _, _ := tree.Add(x.author.Tree, api.Leaf{Name: 3, Pub: pubOf(key(1))})
	t2, _ = tree.Renew(t2, placeOf(t2, 7), pubOf(key(71)))
	for what, list := range map[string][]int{"without": {fresh}, "with": nil} {
		grown, _ := climb.Grow(nil, t2, placeOf(t2, 2), key(1), "", list)
		n := 0
		for _, rung := range grown.Rungs {
			n += len(rung.Wraps)
		}
		if (n == wraps) != (what == "without") {
			t.Errorf("the climb has %d wraps, %s who comes %d", wraps, what, n)
		}
	}
}

func TestProcessOfOtherTags(t *testing.T) {
	g := mixedGroup(t, nil)
	refused := func(what string, change func(x *processing)) {
		t.Helper()
		wantChangedRefused(t, g, what, api.ErrTag, change)
	}
	refused("a bit", func(x *processing) { x.c.Tag[31] ^= 1 })
	refused("noughts", func(x *processing) { x.c.Tag = api.Hash{} })
	refused("a proposal's number", func(x *processing) {
		p := x.c.Proposals[1]
		p.Seq++
		p.Sign = code(verifyOf(signer(5)), "sign"+strings.TrimSuffix(proposalOf(p), text(p.Sign)))
		x.c.Proposals[1] = p
	})
	refused("another thing was said", func(x *processing) { x.e.Said[0]++ })
	refused("another key of a leaf that isn't in it", func(x *processing) { x.e.Tree.Leaves[6].Pub[0]++; fixAbove(x) })
	// Info is for who comes: others can't tell, but that it is another epoch's name.
	x := newProcessing(t, g)
	x.ready()
	a, _, err := commit.Process(nil, x.e.Copy(), x.roll, x.c, x.mine)
	x.c.Info = "whatever"
	x.ready()
	b, _, err2 := commit.Process(nil, x.e.Copy(), x.roll, x.c, x.mine)
	if err != api.OK || err2 != api.OK || a.Id == b.Id || a.Export != b.Export {
		t.Errorf("Process with another Info: %d, %d", err, err2)
	}
}

// fixAbove puts what the path says in the tree of who takes it in.
func fixAbove(x *processing) {
	grown := processedTree(x)
	x.c.Above = grown.Leaves[placeOf(grown, x.c.Author)].Above
}

func processedTree(x *processing) api.Tree {
	var pubs []api.Hash
	for _, rung := range x.c.Path {
		pubs = append(pubs, rung.Pub)
	}
	t2, _ := tree.Renew(x.e.Tree, placeOf(x.e.Tree, 7), x.c.Proposals[0].Change.Pub)
	t2, _, _ = tree.Add(t2, api.Leaf{Name: 3, Pub: x.roll[2].Cards[1].Leaf, Verify: x.roll[2].Verify})
	t2, _ = tree.Path(t2, placeOf(t2, x.c.Author), x.c.Leaf, pubs)
	return t2
}

func TestProcessTwice(t *testing.T) {
	g := mixedGroup(t, nil)
	x := newProcessing(t, g)
	x.ready()
	if _, _, err := commit.Process(nil, x.e, x.roll, x.c, x.mine); err != api.OK {
		t.Fatalf("Process: %d", err)
	}
	wantNotProcessed(t, "once more", api.ErrSpent, x)
	// The spot is the core's: another Info doesn't bring the key back.
	x.c.Info = ""
	wantNotProcessed(t, "with another Info", api.ErrSpent, x)
}

// A commit that was refused can be taken in once it comes as it was.
func TestProcessBehindRefusals(t *testing.T) {
	g := mixedGroup(t, nil)
	x := newProcessing(t, g)
	for _, fault := range processFaults() {
		y := newProcessing(t, g)
		if fault.want == api.ErrFull || fault.what == "no era" || fault.what == "of Me" || fault.what == "no key left" {
			continue // these change the era itself
		}
		y.e = x.e
		fault.make(&y)
		wantNotProcessed(t, fault.what, fault.want, y)
	}
	x.ready()
	wantProcessed(t, "as it was", x.e, x.roll, x.c, x.mine, key(71))
}
