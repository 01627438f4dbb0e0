package commit_test

import (
	"fmt"
	"math"
	"slices"
	"strings"
	"testing"

	"bevy/api"
	"bevy/book"
	"bevy/bough"
	"bevy/commit"
	"bevy/era"
	"bevy/tree"
)

// Promise 13.4: Join.

// wantJoined demands of Join what the chapter says of it, and that just that is noted.
func wantJoined(t *testing.T, what string, me int, author *era.Era, c api.Commit, deck []api.Card, card int) *era.Era {
	t.Helper()
	joiner, secret := opened(t, c, me, deck[card].Init)
	want := joinedOf(nil, me, author, c, joiner, secret, deck[card].Leaf)
	b, handed, cards := book.New(), lentCommit(c), roomy(deck, api.Card{Init: key(7)})
	lists := whole(handed, cards)
	made, err := commit.Join(b, me, handed, cards)
	again, err2 := commit.Join(nil, me, handed, cards)
	if err != api.OK || err2 != api.OK {
		t.Fatalf("%s: Join by %d: %d, without a book %d", what, me, err, err2)
	}
	wantEra(t, what, made, want)
	wantEra(t, what+", without a book", again, want)
	wantNoted(t, what, b, made.Id, func(b *book.Book) { joinedOf(b, me, author, c, joiner, secret, deck[card].Leaf) })
	if whole(handed, cards) != lists {
		t.Errorf("%s: Join changes what was handed in", what)
	}
	wantApart(t, what, map[string]any{"c": handed, "deck": cards, "the era": made, "another era": again})
	if made.Forks != 0 || made.Sent != 0 || made.Me != me || made.Export != author.Export {
		t.Errorf("%s: %d has another epoch", what, me)
	}
	return made
}

func TestJoin(t *testing.T) {
	g := mixedGroup(t, nil)
	for _, by := range []int{5, 7, 64} {
		for what, list := range lists(g.any()) {
			c, author := g.fork().build(t, by, list...)
			for _, w := range c.Welcomes {
				wantJoined(t, fmt.Sprint(what, " by ", by), w.Name, author, c, deckOf(w.Name), w.Card)
			}
		}
	}
}

func TestJoinAGroupOfOne(t *testing.T) {
	roll := rollOf(64)
	e := founded(t, nil, roll, 5).eras[5]
	var list []api.Proposal
	for name := 6; name <= 21; name++ {
		list = append(list, add(e, 5, name))
	}
	c, author, err := commit.Build(nil, e, roll, signer(5), list, key(1))
	if err != api.OK {
		t.Fatalf("Build: %d", err)
	}
	for _, w := range c.Welcomes {
		made := wantJoined(t, "of 17", w.Name, author, c, deckOf(w.Name), 0)
		// The own leaf's, and those of the nodes from the lowest one over it and the author on.
		over := 0
		for _, x := range bough.Direct(17, placeOf(made.Tree, w.Name)) {
			if slices.Contains(bough.Direct(17, 0), x) {
				over++
			}
		}
		if len(made.Keys) != 1+over || over == 0 {
			t.Errorf("%d has %d keys", w.Name, len(made.Keys))
		}
	}
}

// The deck need not be whole: the card of the welcome counts alone.
func TestJoinByOneCard(t *testing.T) {
	g := mixedGroup(t, nil)
	c, author := g.build(t, 7, add(g.any(), 2, 3))
	deck := deckOf(3)
	deck[0], deck[2], deck[3] = api.Card{}, api.Card{}, api.Card{Init: key(1)}
	wantJoined(t, "others are gone", 3, author, c, deck, 1)
	wantJoined(t, "no others behind", 3, author, c, deck[:2], 1)
	wantJoined(t, "more of them", 3, author, c, append(deckOf(3), deckOf(4)...), 1)
}

// Join's errors.

// joining is all that is handed to Join, and that of which the commit is made.
type joining struct {
	me              int
	c               api.Commit
	deck            []api.Card
	welcome, info   string // what is wrapped, and what is sealed
	wrap            func(wrap string) string
	seal            func(seal string) string
	priv            api.Hash // by which the commit is signed
	joiner          api.Hash
	frame           era.Frame
	about, toInfo   string
	keepInfo, keepW bool // what stands in the commit isn't made anew
}

// newJoining is a commit of 2, by which 3 comes.
func newJoining(t *testing.T, g *group) joining {
	t.Helper()
	c, author, err := commit.Build(nil, g.eras[2].Copy(), g.roll, signer(2), []api.Proposal{add(g.any(), 5, 3), add(g.any(), 5, 4)}, key(1))
	if err != api.OK {
		t.Fatalf("Build: %d", err)
	}
	joiner, secret := opened(t, c, 3, deckOf(3)[1].Init)
	same := func(s string) string { return s }
	return joining{
		me: 3, c: lentCommit(c), deck: deckOf(3), welcome: text(joiner) + text(secret), info: infoOf(author.Frame),
		wrap: same, seal: same, priv: signer(2), joiner: joiner, frame: author.Frame, about: text(c.Parent), toInfo: text(c.Parent),
	}
}

// tell has Info tell of the frame, as it is changed.
func (x *joining) tell(change func(f *era.Frame)) {
	f := x.frame
	f.Tree.Leaves = slices.Clone(f.Tree.Leaves)
	f.Tree.Parents = slices.Clone(f.Tree.Parents)
	change(&f)
	x.frame, x.info = f, infoOf(f)
}

// retag makes the tag that is right for the frame that Info tells of.
func (x *joining) retag() {
	f := x.frame
	f.Parent, f.Depth = x.c.Parent, x.c.Depth
	x.c.Tag = tagOf(secretsOf(nil, f, x.joiner), f.Said)
}

// ready puts the commit together.
func (x *joining) ready() {
	if !x.keepW {
		x.c.Welcomes[0].Wrap = x.wrap(wrapOf(pubOf(deckOf(3)[1].Init), key(8), x.about, x.welcome))
	}
	if !x.keepInfo {
		x.c.Info = x.seal(sealOf(derived(x.joiner, "welcome", ""), x.toInfo, x.info))
	}
	x.c = signedBy(x.c, x.priv)
}

type joinFault struct {
	what string
	want api.Errno
	make func(x *joining)
}

// joinFaults are all that may be wrong, in the chapter's order.
func joinFaults() []joinFault {
	return []joinFault{
		{"not right", api.ErrForm, func(x *joining) { x.c.Path = make([]api.Rung, 65) }},
		{"no welcome", api.ErrNone, func(x *joining) { x.c.Welcomes[0].Name = 60 }},
		{"the card is gone", api.ErrSpent, func(x *joining) { x.deck[1].Init = api.Hash{} }},
		{"a wrap that's short", api.ErrShort, func(x *joining) { x.wrap = func(s string) string { return s[:47] } }},
		{"no two secrets", api.ErrForm, func(x *joining) { x.welcome = x.welcome[:63] }},
		{"a seal that doesn't open", api.ErrSeal, func(x *joining) { x.seal = func(s string) string { return s + "x" } }},
		{"Info that goes on", api.ErrForm, func(x *joining) { x.info += "x" }},
		{"the author isn't in", api.ErrOut, func(x *joining) { x.c.Author = 9 }},
		{"not signed", api.ErrSign, func(x *joining) { x.priv = signer(7) }},
		{"another leaf", api.ErrPath, func(x *joining) { x.deck[1].Leaf = key(1) }},
		{"another tag", api.ErrTag, func(x *joining) { x.c.Tag[0]++ }},
	}
}

func wantNotJoined(t *testing.T, what string, want api.Errno, x joining) {
	t.Helper()
	x.ready()
	b := book.New()
	made, err := commit.Join(b, x.me, x.c, x.deck)
	if err != want || made != nil {
		t.Errorf("%s: Join: %d, want %d, with nothing: %t", what, err, want, made == nil)
	}
	if _, ok := b.Named(fmt.Sprintf("epoch %x", commit.Id(x.c))); ok {
		t.Errorf("%s: Join refused names an epoch", what)
	}
}

func wantChangedOut(t *testing.T, g *group, what string, want api.Errno, change func(x *joining)) {
	t.Helper()
	x := newJoining(t, g)
	change(&x)
	wantNotJoined(t, what, want, x)
}

func TestJoinRefuses(t *testing.T) {
	g := mixedGroup(t, nil)
	x := newJoining(t, g)
	x.ready()
	if _, err := commit.Join(nil, 3, x.c, x.deck); err != api.OK {
		t.Fatalf("Join by what is spoilt below: %d", err)
	}
	all := joinFaults()
	for i, first := range all {
		x := newJoining(t, g)
		first.make(&x)
		wantNotJoined(t, first.what, first.want, x)
		for _, second := range all[i+1:] {
			x := newJoining(t, g)
			second.make(&x)
			first.make(&x)
			wantNotJoined(t, first.what+", "+second.what, first.want, x)
		}
	}
}

func TestJoinByNobody(t *testing.T) {
	g := mixedGroup(t, nil)
	for _, me := range []int{0, -1, 1, 2, 5, 10, 64, 65, math.MinInt, math.MaxInt} {
		wantChangedOut(t, g, fmt.Sprint("the name ", me), api.ErrNone, func(x *joining) { x.me = me })
	}
	wantChangedOut(t, g, "no welcomes", api.ErrNone, func(x *joining) { x.c.Welcomes[0].Name, x.c.Welcomes[1].Name = 8, 8 })
	c, _ := g.build(t, 2)
	if made, err := commit.Join(nil, 3, c, deckOf(3)); err != api.ErrNone || made != nil {
		t.Errorf("Join by a commit without welcomes: %d", err)
	}
}

func TestJoinByTheFirstWelcome(t *testing.T) {
	g := mixedGroup(t, nil)
	x := newJoining(t, g)
	x.ready()
	good := x.c.Welcomes[0]
	bad := api.Welcome{Name: 3, Card: 1, Wrap: "short"}
	for what, y := range map[string]struct {
		list []api.Welcome
		want api.Errno
	}{
		"a good one, and a bad one":           {[]api.Welcome{good, bad}, api.OK},
		"a bad one, and a good one":           {[]api.Welcome{bad, good}, api.ErrShort},
		"another's, a good one, and a bad":    {[]api.Welcome{{Name: 4}, good, bad}, api.OK},
		"another's, a bad one, and a good":    {[]api.Welcome{{Name: 4}, bad, good}, api.ErrShort},
		"of a card that is gone, and a good":  {[]api.Welcome{{Name: 3, Card: 4}, good}, api.ErrSpent},
		"another's of the same card and wrap": {[]api.Welcome{{Name: 4, Card: 1, Wrap: good.Wrap}}, api.ErrNone},
	} {
		x.c.Welcomes = y.list
		x.c = signedBy(x.c, signer(2))
		if _, err := commit.Join(nil, 3, x.c, x.deck); err != y.want {
			t.Errorf("%s: Join: %d, want %d", what, err, y.want)
		}
	}
}

func TestJoinWithoutTheCard(t *testing.T) {
	g := mixedGroup(t, nil)
	for what, deck := range map[string][]api.Card{"no cards": nil, "one card": deckOf(3)[:1], "a card of noughts": {{Init: key(1)}, {}}, "its Init gone": {{}, {Leaf: deckOf(3)[1].Leaf}, {Init: key(1)}}} {
		wantChangedOut(t, g, what, api.ErrSpent, func(x *joining) { x.deck = deck })
	}
	for _, card := range []int{4, 5, 64, 1 << 40, api.MaxNum} {
		wantChangedOut(t, g, fmt.Sprint("the card ", card), api.ErrSpent, func(x *joining) { x.c.Welcomes[0].Card = card })
	}
	for _, card := range []int{0, 2, 3} {
		wantChangedOut(t, g, fmt.Sprint("the card ", card), api.ErrSeal, func(x *joining) { x.c.Welcomes[0].Card = card })
	}
	// That the card's Leaf is gone is told only where it is asked for.
	wantChangedOut(t, g, "its Leaf gone", api.ErrPath, func(x *joining) { x.deck[1].Leaf = api.Hash{} })
}

func TestJoinByOtherWraps(t *testing.T) {
	g := mixedGroup(t, nil)
	refused := func(what string, want api.Errno, change func(x *joining)) {
		t.Helper()
		wantChangedOut(t, g, what, want, change)
	}
	refused("another's deck", api.ErrSeal, func(x *joining) { x.deck = deckOf(4) })
	refused("another's wrap", api.ErrSeal, func(x *joining) { x.c.Welcomes[0].Wrap, x.keepW = x.c.Welcomes[1].Wrap, true })
	refused("about nothing", api.ErrSeal, func(x *joining) { x.about = "" })
	refused("about the epoch behind", api.ErrSeal, func(x *joining) { x.about = text(x.frame.Id) })
	refused("another parent", api.ErrSeal, func(x *joining) { x.c.Parent[0]++ })
	refused("another bit", api.ErrSeal, func(x *joining) { x.wrap = func(s string) string { return s[:40] + "x" + s[41:] } })
	refused("no wrap", api.ErrShort, func(x *joining) { x.wrap = func(string) string { return "" } })
	refused("48 bytes", api.ErrSeal, func(x *joining) { x.wrap = func(s string) string { return s[:48] } })
	for _, n := range []int{0, 1, 32, 63} {
		refused(fmt.Sprint(n, " bytes"), api.ErrForm, func(x *joining) { x.welcome = x.welcome[:n] })
	}
	for _, n := range []int{1, 32, 64} {
		refused(fmt.Sprint("64 and ", n, " bytes"), api.ErrForm, func(x *joining) { x.welcome += strings.Repeat("\x00", n) })
	}
	refused("another joiner", api.ErrSeal, func(x *joining) { x.welcome = text(key(1)) + x.welcome[32:] })
	refused("another secret", api.ErrPath, func(x *joining) { x.welcome = x.welcome[:32] + text(key(1)) })
	refused("the other way round", api.ErrSeal, func(x *joining) { x.welcome = x.welcome[32:] + x.welcome[:32] })
}

func TestJoinByOtherInfo(t *testing.T) {
	g := mixedGroup(t, nil)
	refused := func(what string, want api.Errno, change func(x *joining)) {
		t.Helper()
		wantChangedOut(t, g, what, want, change)
	}
	refused("none", api.ErrShort, func(x *joining) { x.seal = func(string) string { return "" } })
	refused("15 bytes", api.ErrShort, func(x *joining) { x.seal = func(s string) string { return s[:15] } })
	refused("16 bytes", api.ErrSeal, func(x *joining) { x.seal = func(s string) string { return s[:16] } })
	refused("another bit", api.ErrSeal, func(x *joining) { x.seal = func(s string) string { return "x" + s[1:] } })
	refused("about nothing", api.ErrSeal, func(x *joining) { x.toInfo = "" })
	refused("under another key", api.ErrSeal, func(x *joining) {
		x.keepInfo, x.c.Info = true, sealOf(x.joiner, x.toInfo, x.info)
	})
	whole := len(newJoining(t, g).info)
	for n := range whole {
		if n < 120 || n%17 == 0 || n == whole-1 {
			refused(fmt.Sprint(n, " bytes"), api.ErrForm, func(x *joining) { x.info = x.info[:n] })
		}
	}
	refused("a byte more", api.ErrForm, func(x *joining) { x.info += "\x00" })
	refused("a byte more in the tree", api.ErrForm, func(x *joining) {
		bytes := tree.Pack(x.frame.Tree)
		x.info = strings.TrimSuffix(x.info, asText(bytes)) + asText(bytes+"\x00")
	})
	refused("a number in too many bytes", api.ErrForm, func(x *joining) { x.info = x.info[:32] + "\x40" + x.info[32:] })
	refused("a number that isn't short", api.ErrForm, func(x *joining) { x.info = x.info[:32] + longNum(0) + x.info[33:] })
	refused("a time fewer", api.ErrForm, func(x *joining) { x.info = x.info[:32] + x.info[33:] })
	refused("a tree that isn't right", api.ErrForm, func(x *joining) {
		bytes := tree.Pack(x.frame.Tree)
		wrong := num(1) + "\x00" // a blank leaf alone
		x.info = strings.TrimSuffix(x.info, asText(bytes)) + asText(wrong)
	})
	refused("no tree", api.ErrForm, func(x *joining) { x.info = strings.TrimSuffix(x.info, asText(tree.Pack(x.frame.Tree))) + asText("") })
	refused("an empty tree", api.ErrOut, func(x *joining) {
		x.info = strings.TrimSuffix(x.info, asText(tree.Pack(x.frame.Tree))) + asText("\x00")
	})
}

func TestJoinWhoIsNoMember(t *testing.T) {
	g := mixedGroup(t, nil)
	remove := func(name int) func(x *joining) {
		return func(x *joining) {
			x.tell(func(f *era.Frame) { f.Tree, _ = tree.Remove(f.Tree, placeOf(f.Tree, name)) })
			x.retag()
		}
	}
	wantChangedOut(t, g, "me", api.ErrOut, remove(3))
	wantChangedOut(t, g, "the author", api.ErrOut, remove(2))
	wantChangedOut(t, g, "another author", api.ErrOut, func(x *joining) { x.c.Author = 9 })
	// Who built it can't join by it, whatever is wrapped for him.
	wantChangedOut(t, g, "both are one", api.ErrOut, func(x *joining) {
		x.me, x.c.Welcomes[0].Name = 2, 2
	})
	wantChangedOut(t, g, "both are another one", api.ErrOut, func(x *joining) { x.c.Author = 3 })
}

func TestJoinByAnotherSignature(t *testing.T) {
	g := mixedGroup(t, nil)
	for name := range 64 {
		if name != 2 {
			wantChangedOut(t, g, fmt.Sprint("of ", name), api.ErrSign, func(x *joining) { x.priv = signer(name) })
		}
	}
	for what, change := range map[string]func(c *api.Commit){
		"Depth":       func(c *api.Commit) { c.Depth++ },
		"Author":      func(c *api.Commit) { c.Author = 5 },
		"Leaf":        func(c *api.Commit) { c.Leaf[0]++ },
		"Above":       func(c *api.Commit) { c.Above[0]++ },
		"Tag":         func(c *api.Commit) { c.Tag[0]++ },
		"Sign":        func(c *api.Commit) { c.Sign[0]++ },
		"a rung":      func(c *api.Commit) { c.Path[0].Pub[0]++ },
		"a proposal":  func(c *api.Commit) { c.Proposals[1].Seq++ },
		"a welcome":   func(c *api.Commit) { c.Welcomes[1].Card++ },
		"no proposal": func(c *api.Commit) { c.Proposals = nil },
	} {
		x := newJoining(t, g)
		x.ready()
		change(&x.c)
		if made, err := commit.Join(nil, 3, x.c, x.deck); err != api.ErrSign || made != nil {
			t.Errorf("%s: Join: %d", what, err)
		}
	}
	// It is the leaf in Info's tree that counts.
	wantChangedOut(t, g, "another leaf's", api.ErrSign, func(x *joining) {
		x.tell(func(f *era.Frame) { f.Tree.Leaves[placeOf(f.Tree, 2)].Verify = verifyOf(signer(8)) })
		x.retag()
	})
	x := newJoining(t, g)
	x.tell(func(f *era.Frame) { f.Tree.Leaves[placeOf(f.Tree, 2)].Verify = verifyOf(signer(8)) })
	x.retag()
	x.priv = signer(8)
	x.ready()
	if _, err := commit.Join(nil, 3, x.c, x.deck); err != api.OK {
		t.Errorf("Join by the leaf's own signature: %d", err)
	}
}

func TestJoinByOtherKeys(t *testing.T) {
	g := mixedGroup(t, nil)
	refused := func(what string, change func(x *joining)) {
		t.Helper()
		wantChangedOut(t, g, what, api.ErrPath, func(x *joining) {
			change(x)
			x.retag()
		})
	}
	parent := func(f *era.Frame, node int) *api.Parent { return &f.Tree.Parents[node/2] }
	refused("the leaf has another key", func(x *joining) {
		x.tell(func(f *era.Frame) { f.Tree.Leaves[placeOf(f.Tree, 3)].Pub[0]++ })
	})
	refused("the leaf has that of another card", func(x *joining) { x.deck[1].Leaf = x.deck[2].Leaf })
	// 2 stands at the place 1, 3 comes to the place 3: the nodes 3 and 7 are over both.
	refused("the lowest node has another key", func(x *joining) { x.tell(func(f *era.Frame) { parent(f, 3).Pub[0]++ }) })
	refused("the root has another key", func(x *joining) { x.tell(func(f *era.Frame) { parent(f, 7).Pub[0]++ }) })
	refused("the lowest node isn't Set", func(x *joining) { x.tell(func(f *era.Frame) { *parent(f, 3) = api.Parent{} }) })
	refused("the root isn't Set", func(x *joining) { x.tell(func(f *era.Frame) { *parent(f, 7) = api.Parent{} }) })
	// The other nodes' keys nobody asks of: the tag tells of them.
	wantChangedOut(t, g, "another node's key", api.ErrTag, func(x *joining) { x.tell(func(f *era.Frame) { parent(f, 1).Pub[0]++ }) })
}

func TestJoinByOtherTags(t *testing.T) {
	g := mixedGroup(t, nil)
	refused := func(what string, change func(x *joining)) {
		t.Helper()
		wantChangedOut(t, g, what, api.ErrTag, change)
	}
	refused("a bit", func(x *joining) { x.c.Tag[31] ^= 1 })
	refused("noughts", func(x *joining) { x.c.Tag = api.Hash{} })
	refused("another thing was said", func(x *joining) { x.tell(func(f *era.Frame) { f.Said[0]++ }) })
	refused("another depth", func(x *joining) { x.c.Depth++ })
	refused("the depth ahead", func(x *joining) { x.c.Depth-- })
	refused("another leaf's key", func(x *joining) { x.tell(func(f *era.Frame) { f.Tree.Leaves[0].Pub[0]++ }) })
	refused("another leaf's Above", func(x *joining) { x.tell(func(f *era.Frame) { f.Tree.Leaves[0].Above[0]++ }) })
	refused("a leaf fewer", func(x *joining) {
		x.tell(func(f *era.Frame) {
			f.Tree.Leaves[5] = api.Leaf{}
			f.Tree.Parents[4].Loose, f.Tree.Parents[5].Loose = nil, nil
		})
	})
	// The depth that the commit tells is the one that counts, if its tag tells of it.
	x := newJoining(t, g)
	x.c.Depth = api.MaxNum
	x.retag()
	x.ready()
	if made, err := commit.Join(nil, 3, x.c, x.deck); err != api.OK || made.Depth != api.MaxNum || made.Parent != x.c.Parent || made.Id != commit.Id(x.c) {
		t.Errorf("Join at the greatest depth: %d", err)
	}
}

// All times come along, whatever they are.
func TestJoinWithTimes(t *testing.T) {
	g := mixedGroup(t, nil)
	x := newJoining(t, g)
	x.tell(func(f *era.Frame) {
		for i := range f.Times {
			f.Times[i] = []int{0, 63, 64, 1 << 14, 1 << 30, api.MaxNum}[i%6]
		}
	})
	x.ready()
	made, err := commit.Join(nil, 3, x.c, x.deck)
	if err != api.OK || made.Times != x.frame.Times {
		t.Errorf("Join: %d", err)
	}
}

func TestJoinAgain(t *testing.T) {
	g := mixedGroup(t, nil)
	c, author := g.build(t, 7, add(g.any(), 2, 3))
	a := wantJoined(t, "once", 3, author, c, deckOf(3), 1)
	b := wantJoined(t, "twice", 3, author, c, deckOf(3), 1)
	a.Init.Take(nil, 7)
	a.Keys[0].Priv[0]++
	a.Tree.Leaves[0].Name = 77
	wantEra(t, "the other one", b, wantJoined(t, "once more", 3, author, c, deckOf(3), 1))
}
