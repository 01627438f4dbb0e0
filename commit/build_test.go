package commit_test

import (
	"fmt"
	"math"
	"slices"
	"testing"

	"bevy/api"
	"bevy/book"
	"bevy/change"
	"bevy/commit"
	"bevy/era"
	"bevy/tree"
)

// Promise 13.2: Build.

// wantBuilt demands of Build what the chapter says of it, and that just that is noted.
func wantBuilt(t *testing.T, what string, e *era.Era, roll []api.Person, list []api.Proposal, once api.Hash) (api.Commit, *era.Era) {
	t.Helper()
	priv, before, twin := signer(e.Me), e.Copy(), e.Copy()
	want, wantE := builtOf(nil, before, roll, priv, list, once)
	b, handed, people := book.New(), roomy(list, api.Proposal{Seq: 777}), lentRoll(roll)
	lists := whole(handed, people)
	c, made, err := commit.Build(b, e, people, priv, handed, once)
	d, again, err2 := commit.Build(nil, twin, people, priv, handed, once)
	if err != api.OK || err2 != api.OK {
		t.Fatalf("%s: Build: %d, without a book %d", what, err, err2)
	}
	wantCommit(t, what, c, want)
	wantCommit(t, what+", without a book", d, want)
	wantEra(t, what, made, wantE)
	wantEra(t, what+", without a book", again, wantE)
	wantSpent(t, what, before, e, want)
	wantNoted(t, what, b, made.Id, func(b *book.Book) { builtOf(b, before, roll, priv, list, once) })
	if whole(handed, people) != lists {
		t.Errorf("%s: Build changes what was handed in", what)
	}
	if !commit.Right(c) {
		t.Errorf("%s: Build makes a commit that isn't right", what)
	}
	wantApart(t, what, map[string]any{"roll": people, "list": handed, "e": e, "its twin": twin, "the commit": c, "the era": made, "another commit": d, "another era": again})
	return c, made
}

func TestBuildInAGroupOfOne(t *testing.T) {
	roll := rollOf(64)
	e := founded(t, nil, roll, 5).eras[5]
	wantBuilt(t, "an empty commit", e, roll, nil, key(1))
	wantBuilt(t, "another one", e, roll, []api.Proposal{}, key(2))
	c, _ := wantBuilt(t, "one comes", e, roll, []api.Proposal{add(e, 5, 64)}, key(3))
	if len(c.Welcomes) != 1 || c.Welcomes[0].Name != 64 || c.Welcomes[0].Card != 0 || len(c.Welcomes[0].Wrap) != 112 || len(c.Path) != 1 || len(c.Path[0].Wraps) != 0 {
		t.Errorf("one comes: welcomes %v, rungs %v", c.Welcomes, c.Path)
	}
	var list []api.Proposal
	for name := 1; name <= 17; name++ {
		if name != 5 {
			list = append(list, add(e, 5, name))
		}
	}
	wantBuilt(t, "as many come as there may", e, roll, list, key(4))
	if e.Forks != 4 {
		t.Errorf("%d Forks", e.Forks)
	}
}

// lists are such as fit in the mixedGroup, whoever commits them of 5, 7 and 64.
func lists(e *era.Era) map[string][]api.Proposal {
	return map[string][]api.Proposal{
		"nothing":           nil,
		"one comes":         {add(e, 2, 3)},
		"a new one comes":   {add(e, 2, 10)},
		"three come":        {add(e, 2, 3), add(e, 11, 10), add(e, 64, 63)},
		"one goes":          {remove(e, 5, 2)},
		"the last one goes": {remove(e, 33, 33)},
		"two go":            {remove(e, 5, 11), remove(e, 5, 33)},
		"one renews":        {update(e, 2, key(71))},
		"two renew":         {update(e, 2, key(71)), update(e, 33, key(72))},
		"all of it":         {update(e, 2, key(71)), remove(e, 5, 11), remove(e, 5, 33), add(e, 2, 3), add(e, 7, 4), add(e, 5, 10), add(e, 64, 63)},
		"some keys noughts": {asked(e, 2, api.Update, 2, api.Hash{})},
	}
}

func TestBuild(t *testing.T) {
	g := mixedGroup(t, nil)
	for _, by := range []int{5, 7, 64} {
		n := 0
		for what, list := range lists(g.any()) {
			n++
			wantBuilt(t, fmt.Sprint(what, " by ", by), g.eras[by].Copy(), g.roll, list, key(100*by+n))
		}
	}
}

func TestBuildByEach(t *testing.T) {
	g := mixedGroup(t, nil)
	for _, by := range g.names() {
		wantBuilt(t, fmt.Sprint("by ", by), g.eras[by], g.roll, []api.Proposal{add(g.any(), 2, 3), add(g.any(), 2, 4)}, key(by))
	}
	g = fullGroup(t, 64)
	for _, by := range []int{1, 2, 33, 63, 64} {
		wantBuilt(t, fmt.Sprint("of all names by ", by), g.eras[by], g.roll, []api.Proposal{remove(g.any(), 5, 30)}, key(by))
	}
}

// What an epoch tells goes into the commit, at the edges of numbers, too.
func TestBuildAtTheEdgesOfNumbers(t *testing.T) {
	g := mixedGroup(t, nil)
	for _, n := range []int{0, 1, 62, 63, 64, 1<<14 - 2, 1 << 32, api.MaxNum - 1} {
		e := g.eras[7].Copy()
		e.Depth = n
		c, made := wantBuilt(t, fmt.Sprint("the depth ", n), e, g.roll, []api.Proposal{add(e, 2, 3)}, key(1))
		if c.Depth != n+1 || made.Depth != n+1 {
			t.Errorf("the depth behind %d is %d", n, c.Depth)
		}
	}
	for _, n := range []int{0, 1, 31} {
		e := g.eras[7].Copy()
		e.Forks = n
		wantBuilt(t, fmt.Sprint("Forks ", n), e, g.roll, nil, key(1))
	}
	e := g.eras[7].Copy()
	e.Times[0], e.Times[19], e.Times[63], e.Times[2] = api.MaxNum, 64, 1<<30, 3
	c, made := wantBuilt(t, "great times", e, g.roll, []api.Proposal{add(e, 2, 3)}, key(1))
	if c.Welcomes[0].Card != 3 || made.Times[2] != 4 || made.Times[0] != api.MaxNum {
		t.Errorf("the times are %v", made.Times)
	}
}

// Info and the welcomes are sealed about the epoch ahead, and open by the keys that the chapter names.
func TestWhatIsSealed(t *testing.T) {
	g := mixedGroup(t, nil)
	c, made := g.build(t, 7, add(g.any(), 2, 3), add(g.any(), 2, 9))
	for _, name := range []int{3, 9} {
		joiner, secret := opened(t, c, name, deckOf(name)[1].Init)
		f := made.Frame
		s := secretsOf(nil, f, joiner)
		if s.Export != made.Export || c.Tag != tagOf(s, f.Said) || c.Info != sealOf(s.Welcome, text(c.Parent), infoOf(f)) {
			t.Errorf("the welcome of %d has another joiner", name)
		}
		node := slices.IndexFunc(made.Keys, func(k api.Key) bool { return k.Priv == derived(secret, "node", "") })
		if node < 0 || made.Keys[node].Node%2 == 0 {
			t.Errorf("the welcome of %d has no secret of a node above", name)
		}
	}
	if c.Welcomes[0].Wrap[:32] == c.Welcomes[1].Wrap[:32] {
		t.Errorf("two welcomes are wrapped once")
	}
}

// Build's errors.

// building is all that is handed to Build.
type building struct {
	e     *era.Era
	roll  []api.Person
	priv  api.Hash
	list  []api.Proposal
	once  api.Hash
	spent bool // the key at the spot is gone
}

func (x building) call(b *book.Book) (api.Commit, *era.Era, api.Errno) {
	if x.spent && x.e != nil {
		c, _ := builtOf(nil, x.e, x.roll, x.priv, x.list, x.once)
		x.e.Init.Take(nil, spotOf(coreOf(c)))
	}
	return commit.Build(b, x.e, x.roll, x.priv, x.list, x.once)
}

type buildFault struct {
	what string
	want api.Errno
	make func(x *building)
}

// buildFaults are all that may be wrong, in the chapter's order.
func buildFaults() []buildFault {
	return []buildFault{
		{"no era", api.ErrArg, func(x *building) { x.e = nil }},
		{"no fork left", api.ErrFull, func(x *building) { x.e.Forks = 32 }},
		{"no depth left", api.ErrLong, func(x *building) { x.e.Depth = api.MaxNum }},
		{"another's key", api.ErrSign, func(x *building) { x.priv = signer(5) }},
		{"a list that doesn't fit", api.ErrList, func(x *building) { slices.Reverse(x.list) }},
		{"no key left", api.ErrSpent, func(x *building) { x.spent = true }},
	}
}

func newBuilding(g *group) building {
	e := g.eras[7].Copy()
	return building{e: e, roll: g.roll, priv: signer(7), list: []api.Proposal{update(e, 2, key(71)), add(e, 2, 3)}, once: key(1)}
}

func wantNotBuilt(t *testing.T, what string, want api.Errno, x building) {
	t.Helper()
	if x.spent {
		x.call(nil) // from here on the key is gone
		x.spent = false
	}
	before := x.e.Pack()
	c, made, err := x.call(book.New())
	if err != want || made != nil || !isNone(c) {
		t.Errorf("%s: Build: %d, want %d, with nothing: %t", what, err, want, made == nil && isNone(c))
	}
	if x.e.Pack() != before {
		t.Errorf("%s: Build refused changes the era", what)
	}
}

func TestBuildRefuses(t *testing.T) {
	g := mixedGroup(t, nil)
	if _, _, err := newBuilding(g).call(nil); err != api.OK {
		t.Fatalf("Build of what is spoilt below: %d", err)
	}
	all := buildFaults()
	for i, first := range all {
		x := newBuilding(g)
		first.make(&x)
		wantNotBuilt(t, first.what, first.want, x)
		for _, second := range all[i+1:] {
			x := newBuilding(g)
			second.make(&x)
			first.make(&x)
			wantNotBuilt(t, first.what+", "+second.what, first.want, x)
		}
	}
}

func TestBuildRefusesMoreForks(t *testing.T) {
	g := mixedGroup(t, nil)
	for _, n := range []int{32, 33, 1 << 40, math.MaxInt} {
		x := newBuilding(g)
		x.e.Forks = n
		wantNotBuilt(t, "Forks", api.ErrFull, x)
	}
}

func TestBuildByAnotherKey(t *testing.T) {
	g := mixedGroup(t, nil)
	e := g.eras[7]
	for what, priv := range map[string]api.Hash{"noughts": {}, "another's": signer(2), "the check key": verifyOf(signer(7)), "the leaf's": deckOf(7)[0].Leaf} {
		x := newBuilding(g)
		x.priv = priv
		wantNotBuilt(t, what, api.ErrSign, x)
	}
	// It is the leaf that counts, whatever the roll tells.
	roll := slices.Clone(g.roll)
	roll[6].Verify = verifyOf(signer(8))
	x := newBuilding(g)
	x.roll = roll
	if _, _, err := x.call(nil); err != api.OK {
		t.Errorf("Build with another roll: %d", err)
	}
	x.priv = signer(8)
	wantNotBuilt(t, "the roll's", api.ErrSign, x)
	if e.Forks != 0 {
		t.Errorf("the group's own era was changed")
	}
}

// Where a list doesn't fit, layer 10's error is the answer: it fits by Me, in this epoch.
func TestBuildOfListsThatDoNotFit(t *testing.T) {
	g := mixedGroup(t, nil)
	e := g.eras[7]
	other := e.Copy()
	other.Id[0]++
	deeper := e.Copy()
	deeper.Depth++
	var long []api.Proposal
	for range 17 {
		long = append(long, add(e, 2, 3))
	}
	unsigned := add(e, 2, 3)
	unsigned.Sign[0]++
	for what, x := range map[string]struct {
		list []api.Proposal
		want api.Errno
	}{
		"too many":            {long, api.ErrLong},
		"not right":           {[]api.Proposal{{}}, api.ErrForm},
		"another epoch":       {[]api.Proposal{add(other, 2, 3)}, api.ErrArg},
		"another depth":       {[]api.Proposal{add(deeper, 2, 3)}, api.ErrArg},
		"of nobody":           {[]api.Proposal{add(e, 9, 3)}, api.ErrOut},
		"not signed":          {[]api.Proposal{unsigned}, api.ErrSign},
		"out of order":        {[]api.Proposal{add(e, 2, 4), add(e, 2, 3)}, api.ErrList},
		"twice":               {[]api.Proposal{add(e, 2, 4), add(e, 5, 4)}, api.ErrList},
		"Me renews":           {[]api.Proposal{update(e, 7, key(1))}, api.ErrList},
		"Me goes":             {[]api.Proposal{remove(e, 5, 7)}, api.ErrList},
		"a member comes":      {[]api.Proposal{add(e, 2, 5)}, api.ErrThere},
		"who isn't in goes":   {[]api.Proposal{remove(e, 2, 9)}, api.ErrNone},
		"the second is wrong": {[]api.Proposal{add(e, 2, 3), add(e, 2, 5)}, api.ErrThere},
	} {
		if fit := change.Fit(e.Tree, e.Times, g.roll, e.Id, e.Depth, 7, x.list); fit != x.want {
			t.Errorf("%s: Fit: %d, want %d", what, fit, x.want)
		}
		wantNotBuilt(t, what, x.want, building{e: e.Copy(), roll: g.roll, priv: signer(7), list: x.list, once: key(1)})
	}
	short := g.roll[:20]
	wantNotBuilt(t, "the roll hasn't him", api.ErrNone, building{e: e.Copy(), roll: short, priv: signer(7), list: []api.Proposal{add(e, 2, 63)}, once: key(1)})
	spent := e.Copy()
	spent.Times[2] = cards
	wantNotBuilt(t, "no card", api.ErrSpent, building{e: spent, roll: g.roll, priv: signer(7), list: []api.Proposal{add(e, 2, 3)}, once: key(1)})
}

func TestBuildOfOneSpotTwice(t *testing.T) {
	g := mixedGroup(t, nil)
	x := newBuilding(g)
	if _, _, err := x.call(nil); err != api.OK {
		t.Fatalf("Build: %d", err)
	}
	wantNotBuilt(t, "the same once more", api.ErrSpent, x)
	x.once = key(2)
	if _, _, err := x.call(nil); err != api.OK || x.e.Forks != 2 {
		t.Errorf("Build by another once: %d, %d Forks", err, x.e.Forks)
	}
	x.once = key(1)
	wantNotBuilt(t, "the first one once more", api.ErrSpent, x)
}

// What is noted beside an error is free, but names no epoch: there is none.
func TestBuildRefusedNamesNothing(t *testing.T) {
	g := mixedGroup(t, nil)
	x := newBuilding(g)
	want, _ := builtOf(nil, x.e, x.roll, x.priv, x.list, x.once)
	x.e.Init.Take(nil, spotOf(coreOf(want)))
	b := book.New()
	if _, _, err := x.call(b); err != api.ErrSpent {
		t.Errorf("Build: %d", err)
	}
	if _, ok := b.Named(fmt.Sprintf("epoch %x", idOf(want))); ok {
		t.Errorf("an epoch that there isn't has a name")
	}
}

// An era whose fields were changed so that it is nobody's is refused.
func TestCallsOfErasOfNobody(t *testing.T) {
	g := mixedGroup(t, nil)
	c, _ := g.build(t, 5)
	for _, me := range []int{0, -1, 9, 65, math.MinInt, math.MaxInt} {
		e := g.eras[7].Copy()
		e.Me = me
		if d, made, err := commit.Build(nil, e, g.roll, signer(7), nil, key(1)); err == api.OK || made != nil || !isNone(d) {
			t.Errorf("Build by %d: %d", me, err)
		}
		if made, _, err := commit.Process(nil, e, g.roll, c, nil); err == api.OK || made != nil {
			t.Errorf("Process by %d: %d", me, err)
		}
	}
	for _, n := range []int{-1, math.MinInt, api.MaxNum + 1} {
		e := g.eras[7].Copy()
		e.Times[40] = n
		row := e.Init.Pack()
		if d, made, err := commit.Build(nil, e, g.roll, signer(7), nil, key(1)); err == api.OK || made != nil || !isNone(d) || e.Forks != 0 || e.Init.Pack() != row {
			t.Errorf("Build with the time %d: %d", n, err)
		}
		if made, _, err := commit.Process(nil, e, g.roll, c, nil); err == api.OK || made != nil || e.Forks != 0 || e.Init.Pack() != row {
			t.Errorf("Process with the time %d: %d", n, err)
		}
	}
	e := g.eras[7].Copy()
	e.Tree = api.Tree{Leaves: make([]api.Leaf, 3)}
	if _, made, err := commit.Build(nil, e, g.roll, signer(7), nil, key(1)); err == api.OK || made != nil || tree.Right(e.Tree) {
		t.Errorf("Build in no tree: %d", err)
	}
	if made, _, err := commit.Process(nil, e, g.roll, c, nil); err == api.OK || made != nil {
		t.Errorf("Process in no tree: %d", err)
	}
}
