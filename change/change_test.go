package change_test

import (
	"math"
	"math/rand"
	"slices"
	"testing"

	"bevy/api"
	"bevy/change"
	"bevy/sha"
	"bevy/tree"
)

var (
	kinds = []int{2, 3, 1, 0, 4, -1, 1 << 40, math.MinInt, math.MaxInt}
	names = []int{math.MinInt, -1, 0, 1, 2, 63, 64, 65, 1 << 40, math.MaxInt}
)

// The chapter's example.

func TestExample(t *testing.T) {
	s := members(1, 2, 3)
	wantFit(t, "the example", api.OK, s, update(3), remove(1, 2), add(1, 9))
	wantFit(t, "the Remove first", api.ErrList, s, remove(1, 2), update(3), add(1, 9))
}

// Promise 10.1: proposals by themselves.

// edges are right proposals, at the ends of what may be.
func edges() []api.Proposal {
	list := []api.Proposal{add(1, 2), update(2), remove(1, 2), remove(2, 2), add(64, 1), update(64), remove(1, 64)}
	for _, n := range []int{0, 1, 63, 64, 16383, 16384, 1<<30 - 1, 1 << 30, api.MaxNum} {
		p := update(5)
		p.Depth, p.Seq = n, max(1, n)
		list = append(list, p)
		p.Depth, p.Seq = 2, max(1, n)
		list = append(list, p)
	}
	bare := update(3)
	bare.Epoch, bare.Change.Pub, bare.Sign = api.Hash{}, api.Hash{}, api.Hash{}
	return append(list, bare)
}

func TestRight(t *testing.T) {
	for _, p := range edges() {
		if !change.Right(p) {
			t.Errorf("not right: %+v", p)
		}
	}
	for what, p := range wrongs() {
		if change.Right(p) {
			t.Errorf("right: %s", what)
		}
	}
}

func TestBytesAndNames(t *testing.T) {
	for _, p := range edges() {
		if got := change.Pack(p); got != bytesOf(p) {
			t.Errorf("Pack of %+v = %x, want %x", p, got, bytesOf(p))
		}
		if got := change.Id(p); got != digest("change", bytesOf(p)) {
			t.Errorf("Id of %+v = %x", p, got)
		}
		if got, e := change.Unpack(bytesOf(p)); got != p || e != api.OK {
			t.Errorf("Unpack of %+v = %+v, %d", p, got, e)
		}
	}
	p := api.Proposal{Depth: 64, Author: 5, Seq: 7, Change: api.Change{Kind: api.Remove, Name: 9}}
	noughts := string(make([]byte, 32))
	if got, want := change.Pack(p), noughts+"\x40\x40\x05\x07\x03\x09"+noughts+noughts; got != want {
		t.Errorf("Pack = %x, want %x", got, want)
	}
}

func TestSignatures(t *testing.T) {
	for _, p := range edges() {
		s := change.Sign(p, signer(2))
		want := p
		want.Sign = signOf(verifyOf(signer(2)), p)
		if s != want {
			t.Errorf("Sign of %+v = %+v", p, s)
		}
		if !change.Check(s, verifyOf(signer(2))) || change.Check(s, verifyOf(signer(3))) || change.Check(s, signer(2)) {
			t.Errorf("Check of %+v isn't right", s)
		}
		if change.Sign(s, signer(2)) != s {
			t.Errorf("signed once more it is another: %+v", s)
		}
	}
	// Of what is signed nothing can be another way.
	s := update(5)
	for what, q := range map[string]func(p *api.Proposal){
		"Epoch":      func(p *api.Proposal) { p.Epoch[0]++ },
		"Depth":      func(p *api.Proposal) { p.Depth++ },
		"Author":     func(p *api.Proposal) { p.Author++; p.Change.Name++ },
		"Seq":        func(p *api.Proposal) { p.Seq++ },
		"Kind":       func(p *api.Proposal) { p.Change.Kind = api.Remove; p.Change.Pub = api.Hash{} },
		"Pub":        func(p *api.Proposal) { p.Change.Pub[31]++ },
		"Sign":       func(p *api.Proposal) { p.Sign[31]++ },
		"Sign ahead": func(p *api.Proposal) { p.Sign[0]++ },
	} {
		p := s
		q(&p)
		if change.Check(p, verifyOf(signer(5))) {
			t.Errorf("Check with another %s is true", what)
		}
	}
	if r := remove(1, 2); change.Check(remove(1, 3), verifyOf(signer(1))) != true || change.Check(api.Proposal{Epoch: r.Epoch, Depth: r.Depth, Author: 1, Seq: 1, Change: api.Change{Kind: api.Remove, Name: 3}, Sign: r.Sign}, verifyOf(signer(1))) {
		t.Errorf("the Name isn't signed")
	}
}

func TestWrongOnes(t *testing.T) {
	for what, p := range wrongs() {
		if got := change.Sign(p, signer(1)); got != p {
			t.Errorf("%s: Sign = %+v", what, got)
		}
		if change.Check(p, verifyOf(signer(1))) {
			t.Errorf("%s: Check is true", what)
		}
		if got := change.Id(p); got != (api.Hash{}) {
			t.Errorf("%s: Id = %x", what, got)
		}
		if got := change.Pack(p); got != "" {
			t.Errorf("%s: Pack = %x", what, got)
		}
	}
}

// A wrong proposal has no signature at all, not even one of the bytes that it would have.
func TestCheckOfAWrongOneThatIsSigned(t *testing.T) {
	p := remove(1, 2)
	p.Change.Pub[3] = 1
	p.Sign = signOf(verifyOf(signer(1)), p)
	if change.Check(p, verifyOf(signer(1))) {
		t.Errorf("Check is true")
	}
}

func TestUnpackErrors(t *testing.T) {
	p := update(5)
	s := bytesOf(p)
	for n := range len(s) {
		wantUnread(t, "cut short", s[:n], api.ErrShort)
	}
	wantUnread(t, "a byte more", s+"\x00", api.ErrTail)
	wantUnread(t, "twice", s+s, api.ErrTail)
	// with tells the bytes with one field put otherwise.
	with := func(at int, bytes string) string {
		f := append(fields(p), text(p.Sign))
		f[at] = bytes
		var made string
		for _, part := range f {
			made += part
		}
		return made
	}
	for at, what := range []string{"", "Depth", "Author", "Seq", "Kind", "Name"} {
		if at == 0 {
			continue
		}
		wantUnread(t, what+" in two bytes", with(at, "\x40\x05"), api.ErrForm)
		wantUnread(t, what+" in eight bytes", with(at, "\xc0\x00\x00\x00\x00\x00\x00\x05"), api.ErrForm)
	}
	wantUnread(t, "Author 65", with(2, num(65)), api.ErrLong)
	wantUnread(t, "Kind 4", with(4, num(4)), api.ErrLong)
	wantUnread(t, "Kind 63", with(4, num(63)), api.ErrLong)
	wantUnread(t, "Name 65", with(5, num(65)), api.ErrLong)
	wantUnread(t, "Name 64", with(5, num(64)), api.ErrForm)
	wantUnread(t, "Author 0", with(2, num(0)), api.ErrForm)
	wantUnread(t, "Seq 0", with(3, num(0)), api.ErrForm)
	wantUnread(t, "Kind 0", with(4, num(0)), api.ErrForm)
	wantUnread(t, "Name 0", with(5, num(0)), api.ErrForm)
	wantUnread(t, "another's Update", with(5, num(6)), api.ErrForm)
	wantUnread(t, "a Remove with Pub", with(4, num(3)), api.ErrForm)
	wantUnread(t, "an Add with Pub", with(4, num(1)), api.ErrForm)
	// What comes first is told first.
	wantUnread(t, "Kind 4, cut short", with(4, num(4))[:100], api.ErrLong)
	wantUnread(t, "Kind 4, and more", with(4, num(4))+"\x00", api.ErrLong)
	wantUnread(t, "Kind 0, cut short", with(4, num(0))[:100], api.ErrShort)
	wantUnread(t, "Kind 0, and more", with(4, num(0))+"\x00", api.ErrTail)
	wantUnread(t, "Author 65, Kind in two bytes", s[:32]+num(3)+num(65)+num(1)+"\x40\x02"+num(5)+text(p.Change.Pub)+text(p.Sign), api.ErrLong)
	wantUnread(t, "Author in two bytes, Kind 4", s[:32]+num(3)+"\x40\x05"+num(1)+num(4)+num(5)+text(p.Change.Pub)+text(p.Sign), api.ErrForm)
}

func wantUnread(t *testing.T, what, s string, want api.Errno) {
	t.Helper()
	if p, e := change.Unpack(s); p != (api.Proposal{}) || e != want {
		t.Errorf("%s: Unpack(%x) = %+v, %d, want the error %d", what, s, p, e, want)
	}
}

func TestLess(t *testing.T) {
	for _, a := range kinds {
		for _, b := range kinds {
			for _, m := range names {
				for _, n := range names {
					p, q := api.Change{Kind: a, Name: m, Pub: key(1)}, api.Change{Kind: b, Name: n, Pub: key(2)}
					if got := change.Less(api.Proposal{Seq: 2, Change: p}, api.Proposal{Seq: 1, Change: q}); got != isAhead(p, q) {
						t.Errorf("Less(%d of %d, %d of %d) = %v", a, m, b, n, got)
					}
				}
			}
		}
	}
	at := func(kind, name int) api.Proposal { return api.Proposal{Change: api.Change{Kind: kind, Name: name}} }
	order := []api.Proposal{at(2, 1), at(2, 64), at(3, 1), at(3, 64), at(1, 1), at(1, 64), at(0, -1), at(4, 0), at(-1, 1)}
	for i, a := range order {
		for j, b := range order {
			if got := change.Less(a, b); got != (i < j) {
				t.Errorf("Less(%v, %v) = %v", a.Change, b.Change, got)
			}
		}
	}
	if change.Less(at(0, 5), at(7, 5)) || change.Less(at(7, 5), at(0, 5)) {
		t.Errorf("kinds that are none don't count as one")
	}
}

// Promise 10.2: Fit.

func TestFits(t *testing.T) {
	s := members(1, 2, 3, 4)
	wantFit(t, "nothing", api.OK, s)
	wantFit(t, "nothing, nobody", api.OK, state{})
	wantFit(t, "one of each", api.OK, s, update(3), remove(1, 2), add(4, 9))
	wantFit(t, "rising names", api.OK, s, update(1), update(2), remove(1, 3), remove(2, 4), add(2, 5), add(1, 64))
	wantFit(t, "who goes asked for it", api.OK, s, remove(2, 1), remove(2, 2), add(1, 9))
	wantFit(t, "all go", api.OK, s, remove(2, 1), remove(2, 2), remove(3, 3), remove(4, 4), add(1, 9))
	s.by = 5
	wantFit(t, "who comes commits", api.OK, s, add(1, 5))
	for _, by := range []int{0, -1, 65, math.MinInt, math.MaxInt} {
		s.by = by
		wantFit(t, "by nobody", api.OK, s, update(1), remove(1, 4))
	}
	s.by = 2
	wantFit(t, "by another one", api.OK, s, update(1), remove(2, 4))
	s.depth = api.MaxNum
	deep := signed(api.Proposal{Epoch: s.epoch, Depth: api.MaxNum, Author: 1, Seq: api.MaxNum, Change: api.Change{Kind: api.Add, Name: 9}})
	wantFit(t, "the greatest Depth", api.OK, s, deep)
}

// The signature is held against the leaf's check key, whatever the roll has.
func TestFitAsksTheLeaf(t *testing.T) {
	s := members(1, 2, 3)
	s.roll = people(9, 2)
	s.roll[0].Verify = key(8)
	wantFit(t, "another one in the roll", api.OK, s, add(1, 9))
	s = members(1, 2, 3)
	s.tree.Leaves[0].Verify = verifyOf(signer(2))
	wantFit(t, "another one in the leaf", api.ErrSign, s, add(1, 9))
	s.roll = nil
	wantFit(t, "no roll", api.OK, s, update(2), remove(2, 3))
}

func TestFitErrors(t *testing.T) {
	s := members(1, 2, 3, 4)
	for what, x := range wrongTrees() {
		bad := s
		bad.tree = x
		wantFit(t, what, api.ErrArg, bad)
		wantFit(t, what, api.ErrArg, bad, api.Proposal{})
		wantFit(t, what, api.ErrArg, bad, make([]api.Proposal, 17)...)
	}
	for what, p := range wrongs() {
		wantFit(t, what, api.ErrForm, s, p)
		wantFit(t, what+", behind one", api.ErrForm, s, update(1), p)
	}
	other := update(1)
	other.Epoch[31]++
	wantFit(t, "another epoch", api.ErrArg, s, signed(other))
	other = update(1)
	other.Depth++
	wantFit(t, "another depth", api.ErrArg, s, signed(other))
	wantFit(t, "no member asks to add", api.ErrOut, s, add(5, 9))
	wantFit(t, "no member asks to go", api.ErrOut, s, remove(5, 1))
	wantFit(t, "no member's Update", api.ErrOut, s, update(5))
	wantFit(t, "nobody is a member", api.ErrOut, state{epoch: key(1), depth: 3}, update(1))
	unsigned := update(1)
	unsigned.Sign[0]++
	wantFit(t, "no signature", api.ErrSign, s, unsigned)
	stolen := update(1)
	stolen.Sign = signOf(verifyOf(signer(2)), stolen)
	wantFit(t, "another one's signature", api.ErrSign, s, stolen)
	wantFit(t, "a member comes", api.ErrThere, s, add(1, 2))
	wantFit(t, "who commits comes, a member", api.ErrThere, state{s.tree, s.times, s.roll, s.epoch, s.depth, 2}, add(1, 2))
	wantFit(t, "no member goes", api.ErrNone, s, remove(1, 5))
	wantFit(t, "another one's in", api.ErrThere, s, update(2), add(1, 1), add(1, 9))
}

func TestFitOfLists(t *testing.T) {
	s := members(1, 2, 3, 4)
	wantFit(t, "the Add first", api.ErrList, s, add(1, 9), update(3))
	wantFit(t, "the Add ahead of a Remove", api.ErrList, s, add(1, 9), remove(1, 3))
	wantFit(t, "names fall", api.ErrList, s, update(3), update(2))
	wantFit(t, "Removes fall", api.ErrList, s, remove(1, 3), remove(1, 2))
	wantFit(t, "Adds fall", api.ErrList, s, add(1, 9), add(1, 8))
	wantFit(t, "twice the same", api.ErrList, s, update(3), update(3))
	wantFit(t, "twice the same name", api.ErrList, s, add(1, 9), add(2, 9))
	wantFit(t, "renewed, and goes", api.ErrList, s, update(3), remove(1, 3))
	wantFit(t, "renewed, and goes, with others between", api.ErrList, s, update(3), update(4), remove(1, 2), remove(1, 3))
	wantFit(t, "goes, and comes", api.ErrList, s, remove(1, 3), add(1, 3))
	wantFit(t, "renewed, and comes", api.ErrList, s, update(3), add(1, 3))
	wantFit(t, "the last name falls, behind others", api.ErrList, s, update(1), update(2), update(4), update(3))
	for by, p := range map[int]api.Proposal{1: update(1), 2: remove(1, 2), 3: remove(3, 3)} {
		s.by = by
		wantFit(t, "of who commits", api.ErrList, s, p)
	}
	s.by = 2
	wantFit(t, "of who commits, behind one", api.ErrList, s, update(1), update(2))
}

func TestFitLongLists(t *testing.T) {
	s := members(1)
	var list []api.Proposal
	for name := 2; name <= 18; name++ {
		list = append(list, add(1, name))
	}
	wantFit(t, "16", api.OK, s, list[:16]...)
	wantFit(t, "17", api.ErrLong, s, list...)
	wantFit(t, "17 of nothing", api.ErrLong, s, make([]api.Proposal, 17)...)
	wantFit(t, "many of nothing", api.ErrLong, s, make([]api.Proposal, 1000)...)
	wantFit(t, "16 of nothing", api.ErrForm, s, make([]api.Proposal, 16)...)
}

func TestFitCards(t *testing.T) {
	s := members(1, 2)
	for _, n := range []int{-1, 2, 3, -64, math.MinInt, math.MaxInt, 1 << 32, 1<<32 + 1, 1 << 62} {
		s.times[8] = n
		wantFit(t, "no card is left", api.ErrSpent, s, add(1, 9))
		wantFit(t, "no card is left, behind one", api.ErrSpent, s, remove(1, 2), add(1, 9))
		wantFit(t, "another one's", api.OK, s, add(1, 8))
	}
	for _, n := range []int{0, 1} {
		s.times[8] = n
		wantFit(t, "a card is left", api.OK, s, add(1, 9))
	}
	s.times[0], s.times[1] = -1, 9
	wantFit(t, "members' times", api.OK, s, update(1), remove(1, 2))
	s.roll = people(64, 2)[:9]
	s.roll[7].Cards = nil
	wantFit(t, "the last of the roll", api.OK, s, add(1, 9))
	wantFit(t, "behind the roll", api.ErrNone, s, add(1, 10))
	wantFit(t, "no cards", api.ErrSpent, s, add(1, 8))
	s.times[9] = -1
	wantFit(t, "behind the roll, no card either", api.ErrNone, s, add(1, 10))
	s.roll = nil
	wantFit(t, "no roll", api.ErrNone, s, add(1, 9))
	s.roll = people(100, 5)
	s.times[63] = 4
	wantFit(t, "a longer roll, more cards", api.OK, s, add(1, 64))
}

// Of several errors the one that the chapter names first is told.
func TestFitErrorsInOrder(t *testing.T) {
	s := members(1, 2, 3, 4)
	s.by, s.times[8], s.times[2] = 3, 7, 7
	// Each mends the first thing that is wrong of the one ahead of it.
	p := api.Proposal{Epoch: key(2), Depth: 4, Author: 5, Seq: 0, Change: api.Change{Kind: api.Remove, Name: 3}}
	wantFit(t, "all wrong", api.ErrForm, s, update(4), p)
	p.Seq = 1
	wantFit(t, "another epoch", api.ErrArg, s, update(4), p)
	p.Epoch = key(1)
	wantFit(t, "another depth", api.ErrArg, s, update(4), p)
	p.Depth = 3
	wantFit(t, "out", api.ErrOut, s, update(4), p)
	p.Author = 1
	wantFit(t, "not signed", api.ErrSign, s, update(4), p)
	wantFit(t, "by who commits", api.ErrList, s, update(4), signed(p))
	s.by = 0
	wantFit(t, "now it fits", api.OK, s, update(4), signed(p))

	wantFit(t, "out of order, a member", api.ErrList, s, add(1, 10), add(1, 3))
	wantFit(t, "out of order, no card", api.ErrList, s, add(1, 10), add(1, 9))
	wantFit(t, "a name twice, a member", api.ErrList, s, update(3), add(1, 3))
	wantFit(t, "a member, no card", api.ErrThere, s, update(1), add(1, 3))
	s.by = 7
	wantFit(t, "who commits goes, no member", api.ErrList, s, remove(1, 7))

	// The first proposal that is wrong tells, whatever is wrong with those behind it.
	wantFit(t, "spent, then nothing", api.ErrSpent, s, add(1, 9), api.Proposal{})
	wantFit(t, "a member, then nothing", api.ErrThere, s, add(1, 3), api.Proposal{})
	wantFit(t, "no member, then a member", api.ErrNone, s, remove(1, 8), add(1, 3))
}

func TestFitOfAFullTree(t *testing.T) {
	var all []int
	for name := 1; name <= 64; name++ {
		all = append(all, name)
	}
	s := members(all...)
	wantFit(t, "one more", api.ErrThere, s, add(1, 64))
	wantFit(t, "one goes, and comes", api.ErrList, s, remove(1, 64), add(1, 64))
	s.tree, _ = tree.Remove(s.tree, 7)
	wantFit(t, "the last place", api.OK, s, add(1, 8))
	if a := wantApplied(t, "the last place", s, add(1, 8)); !slices.Equal(a.fresh, []int{7}) {
		t.Errorf("fresh: %v", a.fresh)
	}
}

// Promise 10.3: Apply.

func TestApply(t *testing.T) {
	s := members(1, 2, 3, 4)
	a := wantApplied(t, "one of each", s, update(3), remove(1, 2), add(1, 9))
	if !slices.Equal(tree.Names(a.tree), []int{1, 3, 4, 9}) || !slices.Equal(a.fresh, []int{1}) || a.times[8] != 1 || a.times[1] != 1 {
		t.Errorf("one of each: %v", a)
	}
	if want := (api.Leaf{Name: 9, Pub: s.roll[8].Cards[0].Leaf, Verify: s.roll[8].Verify}); a.tree.Leaves[1] != want {
		t.Errorf("who came is %+v", a.tree.Leaves[1])
	}
	if leaf := a.tree.Leaves[2]; leaf.Pub != update(3).Change.Pub || leaf.Above != (api.Hash{}) {
		t.Errorf("who is renewed is %+v", leaf)
	}
	s.times[8] = 1
	a = wantApplied(t, "the second card", s, add(1, 9))
	if a.tree.Leaves[4].Pub != s.roll[8].Cards[1].Leaf || a.times[8] != 2 || !slices.Equal(a.fresh, []int{4}) {
		t.Errorf("the second card: %v", a)
	}
	wantApplied(t, "nothing", s)
	wantApplied(t, "nothing, nobody", state{})
	wantApplied(t, "the first one", state{roll: people(3, 1)}, add(1, 3))
}

// What a list has to be to fit, Apply doesn't ask.
func TestApplyAsksLittle(t *testing.T) {
	s := members(1, 2, 3, 4)
	a := wantApplied(t, "no order", s, add(1, 9), remove(1, 9), remove(1, 2), add(1, 9), update(3))
	if !slices.Equal(a.fresh, []int{4, 1}) || a.times[8] != 2 || a.e != api.OK {
		t.Errorf("no order: %v", a)
	}
	bare := func(kind, name int) api.Proposal {
		return api.Proposal{Depth: -9, Author: 99, Change: api.Change{Kind: kind, Name: name, Pub: key(6)}}
	}
	a = wantApplied(t, "not right, not signed", s, bare(api.Update, 1), bare(api.Remove, 2), bare(api.Add, 9))
	if a.e != api.OK || a.tree.Leaves[0].Pub != key(6) || a.tree.Leaves[1].Pub != s.roll[8].Cards[0].Leaf {
		t.Errorf("not right: %v", a)
	}
	var many []api.Proposal
	for name := 5; name <= 64; name++ {
		many = append(many, add(1, name))
	}
	if a = wantApplied(t, "many", s, many...); len(a.fresh) != 60 || a.fresh[59] != 63 {
		t.Errorf("many: %v", a)
	}
	if a = wantApplied(t, "all go", s, remove(1, 1), remove(1, 2), remove(1, 3), remove(1, 4)); len(a.tree.Leaves) != 0 || a.e != api.OK {
		t.Errorf("all go: %v", a)
	}
	s.roll = nil
	if a = wantApplied(t, "no roll", s, update(3), remove(1, 2)); a.e != api.OK {
		t.Errorf("no roll: %v", a)
	}
}

func TestApplyErrors(t *testing.T) {
	s := members(1, 2, 3, 4)
	wantRefused := func(what string, want api.Errno, s state, list ...api.Proposal) {
		t.Helper()
		if a := wantApplied(t, what, s, list...); a.e != want {
			t.Errorf("%s: %v, want the error %d", what, a, want)
		}
		if want != api.ErrArg {
			if a := wantApplied(t, what+", behind others", s, append([]api.Proposal{update(1), add(1, 60)}, list...)...); a.e != want {
				t.Errorf("%s, behind others: %v, want the error %d", what, a, want)
			}
		}
	}
	for what, x := range wrongTrees() {
		bad := s
		bad.tree = x
		wantRefused(what, api.ErrArg, bad)
		wantRefused(what, api.ErrArg, bad, api.Proposal{})
		wantRefused(what, api.ErrArg, bad, update(1))
	}
	at := func(kind, name int) api.Proposal { return api.Proposal{Change: api.Change{Kind: kind, Name: name}} }
	for _, kind := range kinds[3:] {
		wantRefused("no kind", api.ErrNone, s, at(kind, 1))
		wantRefused("no kind", api.ErrNone, s, at(kind, 9))
	}
	for _, name := range []int{math.MinInt, -1, 0, 5, 65, 1 << 32, 1<<32 + 1, math.MaxInt} {
		wantRefused("no member is renewed", api.ErrNone, s, at(api.Update, name))
		wantRefused("no member goes", api.ErrNone, s, at(api.Remove, name))
	}
	for _, n := range []int{-1, 2, math.MinInt, math.MaxInt, 1 << 32} {
		spent := s
		spent.times[8], spent.times[1] = n, n
		wantRefused("spent", api.ErrSpent, spent, add(1, 9))
		wantRefused("spent, a member", api.ErrSpent, spent, add(1, 2))
	}
	wantRefused("spent by itself", api.ErrSpent, s, add(1, 9), remove(1, 9), add(1, 9), remove(1, 9), add(1, 9))
	wantRefused("a member comes", api.ErrThere, s, add(1, 2))
	wantRefused("goes twice", api.ErrNone, s, remove(1, 2), remove(1, 2))
	s.roll = people(100, 2)
	for _, name := range []int{math.MinInt, -1, 0, 65, 66, 100, 101, 1 << 32, 1<<32 + 1, math.MaxInt} {
		wantRefused("no name", api.ErrNone, s, at(api.Add, name))
	}
	wantRefused("the first that can't be done", api.ErrThere, s, update(3), add(1, 2), at(0, 0))
	s.roll = append(people(8, 2), make([]api.Person, 52)...)
	s.roll[59] = people(60, 2)[59]
	wantRefused("no cards", api.ErrSpent, s, add(1, 9))
	wantRefused("behind the roll", api.ErrNone, s, add(1, 61))
	wantRefused("behind the roll, a member", api.ErrNone, members(1, 62), at(api.Update, 2))
}

// Promise 10.4: Pick.

func TestPick(t *testing.T) {
	s := members(1, 2, 3)
	s.by = 1
	got := wantPicked(t, "all kinds", s, add(1, 9), update(3), remove(1, 2), add(1, 9), remove(2, 1))
	if want := []api.Proposal{update(3), remove(1, 2), add(1, 9)}; !slices.Equal(got, want) {
		t.Errorf("all kinds: %s", told(got))
	}
	wantPicked(t, "nothing", s)
	wantPicked(t, "what doesn't fit", s, update(1), add(1, 2), remove(1, 4), update(7), api.Proposal{})
	got = wantPicked(t, "an Update ahead of what removes its name", s, remove(1, 3), update(3))
	if want := []api.Proposal{update(3)}; !slices.Equal(got, want) {
		t.Errorf("an Update ahead of what removes its name: %s", told(got))
	}
	for what, x := range wrongTrees() {
		bad := s
		bad.tree = x
		wantPicked(t, what, bad, update(2), add(1, 9))
	}
	for what, p := range wrongs() {
		if got := wantPicked(t, what, s, p, update(2), p); len(got) != 1 {
			t.Errorf("%s: %s", what, told(got))
		}
	}
}

// Of two for one change that of the lesser Id is taken, unless it doesn't fit.
func TestPickBetweenAlikeChanges(t *testing.T) {
	s := members(1, 2, 3)
	for seq := 1; seq < 9; seq++ {
		a, b := proposal(2, api.Update, 2, seq), proposal(2, api.Update, 2, seq+1)
		if sha.Cmp(change.Id(a), change.Id(b)) > 0 {
			a, b = b, a
		}
		for _, known := range [][]api.Proposal{{a, b}, {b, a}, {b, a, b, a}} {
			if got := wantPicked(t, "two Updates", s, known...); !slices.Equal(got, []api.Proposal{a}) {
				t.Errorf("two Updates: %s", told(got))
			}
		}
		c, d := remove(1, 2), remove(3, 2)
		if sha.Cmp(change.Id(c), change.Id(d)) > 0 {
			c, d = d, c
		}
		if got := wantPicked(t, "two Removes", s, d, c); !slices.Equal(got, []api.Proposal{c}) {
			t.Errorf("two Removes: %s", told(got))
		}
		for a.Sign = key(seq); sha.Cmp(change.Id(a), change.Id(b)) > 0; {
			a.Sign[0]++
		}
		if got := wantPicked(t, "the lesser isn't signed", s, a, b); !slices.Equal(got, []api.Proposal{b}) {
			t.Errorf("the lesser isn't signed: %s", told(got))
		}
	}
}

func TestPickTakesSixteen(t *testing.T) {
	s := members(1, 2, 3)
	known := []api.Proposal{update(2), update(3)}
	for name := 4; name <= 40; name++ {
		known = append(known, add(1, name))
	}
	slices.Reverse(known)
	got := wantPicked(t, "many", s, known...)
	if len(got) != 16 || got[15] != add(1, 17) {
		t.Errorf("many: %s", told(got))
	}
	if got := wantPicked(t, "just as many", s, known[len(known)-16:]...); len(got) != 16 {
		t.Errorf("just as many: %s", told(got))
	}
}

// Promise 10.5, and all of it by chance.

func TestByChance(t *testing.T) {
	rounds := 2500
	if testing.Short() {
		rounds = 500
	}
	fits := 0
	for seed := range rounds {
		r := rand.New(rand.NewSource(int64(seed)))
		s := randomState(r)
		var known []api.Proposal
		for range r.Intn(25) {
			known = append(known, randomProposal(r))
		}
		wantApplied(t, "by chance", s, known[:min(len(known), 3)]...)
		wantFit(t, "by chance", fitOf(s, known), s, known...)
		taken := wantPicked(t, "by chance", s, known...)
		wantFit(t, "what was picked", api.OK, s, taken...)
		wantMembers(t, s, taken)
		if len(taken) > 2 {
			fits++
		}
		for _, i := range r.Perm(len(taken)) {
			wantFit(t, "without one", fitOf(s, slices.Delete(slices.Clone(taken), i, i+1)), s, slices.Delete(slices.Clone(taken), i, i+1)...)
		}
		r.Shuffle(len(known), func(i, j int) { known[i], known[j] = known[j], known[i] })
		if again := change.Pick(s.tree, s.times, s.roll, s.epoch, s.depth, s.by, known); !slices.Equal(again, taken) {
			t.Errorf("in another order %s is picked, not %s", told(again), told(taken))
		}
		if t.Failed() {
			t.Fatalf("the seed is %d", seed)
		}
	}
	if fits < rounds/10 {
		t.Errorf("only %d of %d lists had more than two", fits, rounds)
	}
}

// wantMembers demands of a list that fits that behind it those are members who were, without who goes, and with who comes.
func wantMembers(t *testing.T, s state, list []api.Proposal) {
	t.Helper()
	want := map[int]bool{}
	for _, name := range tree.Names(s.tree) {
		want[name] = true
	}
	var came []int
	for _, p := range list {
		switch p.Change.Kind {
		case api.Add:
			want[p.Change.Name] = true
			came = append(came, p.Change.Name)
		case api.Remove:
			delete(want, p.Change.Name)
		}
	}
	a := wantApplied(t, "what fits", s, list...)
	if a.e != api.OK || !tree.Right(a.tree) || len(tree.Names(a.tree)) != len(want) || len(a.fresh) != len(came) {
		t.Fatalf("what fits: %v", a)
	}
	for _, name := range tree.Names(a.tree) {
		if !want[name] {
			t.Errorf("%d is a member: %v", name, a)
		}
	}
	for i, place := range a.fresh {
		if a.tree.Leaves[place].Name != came[i] {
			t.Errorf("who came at %d isn't %d: %v", place, came[i], a)
		}
	}
}

func FuzzUnpack(f *testing.F) {
	for _, p := range edges() {
		f.Add(bytesOf(p))
	}
	for _, p := range wrongs() {
		if min(p.Depth, p.Author, p.Seq, p.Change.Kind, p.Change.Name) >= 0 && max(p.Depth, p.Author, p.Seq, p.Change.Kind, p.Change.Name) <= api.MaxNum {
			f.Add(bytesOf(p))
		}
	}
	f.Fuzz(func(t *testing.T, s string) {
		p, e := change.Unpack(s)
		if e != api.OK {
			if p != (api.Proposal{}) {
				t.Errorf("beside the error %d: %+v", e, p)
			}
			return
		}
		if !isRight(p) || change.Pack(p) != s {
			t.Errorf("Unpack(%x) = %+v, which is packed otherwise", s, p)
		}
	})
}
