package commit_test

import (
	"math"
	"strings"
	"testing"

	"bevy/api"
	"bevy/change"
	"bevy/commit"
)

// The chapter's example.

func TestExample(t *testing.T) {
	g := founded(t, nil, rollOf(1), 1)
	c, e := g.build(t, 1)
	if len(c.Path) != 0 || len(c.Welcomes) != 0 || len(c.Proposals) != 0 || e.Depth != 1 {
		t.Errorf("the commit has %d rungs, %d welcomes, %d proposals", len(c.Path), len(c.Welcomes), len(c.Proposals))
	}
}

// Promise 13.1: commits by themselves.

func proposal(kind, name int) api.Proposal {
	p := api.Proposal{Epoch: key(9), Depth: 70, Author: 2, Seq: 7, Change: api.Change{Kind: kind, Name: name}, Sign: key(10)}
	if kind == api.Update {
		p.Author, p.Change.Pub = name, key(11)
	}
	return p
}

// full is a commit that has some of all.
func full() api.Commit {
	return api.Commit{
		Parent:    key(1),
		Depth:     71,
		Author:    2,
		Proposals: []api.Proposal{proposal(api.Update, 3), proposal(api.Remove, 4), proposal(api.Add, 64)},
		Leaf:      key(2),
		Above:     key(3),
		Path:      []api.Rung{{Pub: key(4), Wraps: []string{"one", "", strings.Repeat("w", 80)}}, {}, {Pub: key(5), Wraps: []string{"\x00"}}},
		Info:      "some info",
		Welcomes:  []api.Welcome{{Name: 64, Card: 3, Wrap: "come in"}, {Name: 1, Card: 64, Wrap: ""}},
		Tag:       key(6),
		Sign:      key(7),
	}
}

// with is a commit that has some of all, changed.
func with(change func(c *api.Commit)) api.Commit {
	c := full()
	change(&c)
	return c
}

// edges are right commits, at the ends of what may be.
func edges() []api.Commit {
	list := []api.Commit{{Depth: 1, Author: 1}, full()}
	for _, n := range []int{1, 63, 64, 1<<14 - 1, 1 << 14, 1<<30 - 1, 1 << 30, api.MaxNum - 1, api.MaxNum} {
		list = append(list, with(func(c *api.Commit) { c.Depth, c.Welcomes[0].Card = n, n }))
	}
	for _, n := range []int{1, 63, 64} {
		list = append(list, with(func(c *api.Commit) { c.Author, c.Welcomes[0].Name = n, n }))
	}
	for _, n := range []int{0, 63, 64, 1023, 1024} {
		list = append(list, with(func(c *api.Commit) {
			c.Path[0].Wraps[0], c.Welcomes[0].Wrap = strings.Repeat("x", n), strings.Repeat("y", n)
		}))
	}
	for _, n := range []int{0, 1, 63, 64, 1 << 14, 65535, 65536} {
		list = append(list, with(func(c *api.Commit) { c.Info = strings.Repeat("z", n) }))
	}
	list = append(list, with(func(c *api.Commit) { c.Welcomes[0].Card = 0 }))
	return append(list, with(func(c *api.Commit) {
		for len(c.Proposals) < 16 {
			c.Proposals = append(c.Proposals, proposal(api.Remove, 5)) // right by itself, whether the list fits or not
		}
		for len(c.Welcomes) < 16 {
			c.Welcomes = append(c.Welcomes, api.Welcome{Name: 64})
		}
		for len(c.Path) < 64 {
			c.Path = append(c.Path, api.Rung{Wraps: make([]string, 64)})
		}
	}))
}

// wrongs are commits that aren't right, each for one reason.
func wrongs() map[string]api.Commit {
	list := map[string]api.Commit{
		"nothing":                with(func(c *api.Commit) { *c = api.Commit{} }),
		"a proposal too many":    with(func(c *api.Commit) { c.Proposals = make17(proposal(api.Add, 1)) }),
		"a wrong proposal":       with(func(c *api.Commit) { c.Proposals[0].Seq = 0 }),
		"a wrong last proposal":  with(func(c *api.Commit) { c.Proposals[2].Change.Pub = key(1) }),
		"a rung too many":        with(func(c *api.Commit) { c.Path = make([]api.Rung, 65) }),
		"a wrap too many":        with(func(c *api.Commit) { c.Path[0].Wraps = make([]string, 65) }),
		"a last wrap too many":   with(func(c *api.Commit) { c.Path[2].Wraps = make([]string, 65) }),
		"a wrap too long":        with(func(c *api.Commit) { c.Path[0].Wraps[0] = strings.Repeat("x", 1025) }),
		"a last wrap too long":   with(func(c *api.Commit) { c.Path[0].Wraps[2] = strings.Repeat("x", 1025) }),
		"an Info too long":       with(func(c *api.Commit) { c.Info = strings.Repeat("x", 65537) }),
		"a welcome too many":     with(func(c *api.Commit) { c.Welcomes = make17(api.Welcome{Name: 1}) }),
		"a welcome too long":     with(func(c *api.Commit) { c.Welcomes[0].Wrap = strings.Repeat("x", 1025) }),
		"a last one of no name":  with(func(c *api.Commit) { c.Welcomes[1].Name = 0 }),
		"a last one of no card":  with(func(c *api.Commit) { c.Welcomes[1].Card = -1 }),
		"a last one that's long": with(func(c *api.Commit) { c.Welcomes[1].Wrap = strings.Repeat("x", 1025) }),
	}
	for what, n := range map[string]int{"0": 0, "-1": -1, "the least": math.MinInt, "MaxNum+1": api.MaxNum + 1, "the greatest": math.MaxInt} {
		list["the depth "+what] = with(func(c *api.Commit) { c.Depth = n })
		if n != 0 {
			list["the card "+what] = with(func(c *api.Commit) { c.Welcomes[0].Card = n })
		}
		list["the author "+what] = with(func(c *api.Commit) { c.Author = n })
		list["a welcome's name "+what] = with(func(c *api.Commit) { c.Welcomes[0].Name = n })
	}
	list["the author 65"] = with(func(c *api.Commit) { c.Author = 65 })
	list["a welcome's name 65"] = with(func(c *api.Commit) { c.Welcomes[0].Name = 65 })
	return list
}

func make17[T any](one T) []T {
	var list []T
	for range 17 {
		list = append(list, one)
	}
	return list
}

func TestRight(t *testing.T) {
	for i, c := range edges() {
		if !commit.Right(c) {
			t.Errorf("the edge %d isn't right", i)
		}
	}
	for what, c := range wrongs() {
		if commit.Right(c) {
			t.Errorf("right: %s", what)
		}
	}
}

func TestBytesAndNames(t *testing.T) {
	for i, c := range edges() {
		lent := lentCommit(c)
		before := whole(lent)
		if commit.Core(lent) != coreOf(c) {
			t.Errorf("the edge %d has another core", i)
		}
		if commit.Pack(lent) != bytesOf(c) {
			t.Errorf("the edge %d has other bytes", i)
		}
		if commit.Id(lent) != idOf(c) {
			t.Errorf("the edge %d has another name", i)
		}
		if whole(lent) != before {
			t.Errorf("the edge %d was changed", i)
		}
	}
	for what, c := range wrongs() {
		if commit.Core(c) != "" || commit.Pack(c) != "" || commit.Id(c) != (api.Hash{}) {
			t.Errorf("%s: it has a core, bytes or a name", what)
		}
	}
}

func TestBytesOfASmallOne(t *testing.T) {
	noughts := strings.Repeat("\x00", 32)
	c := api.Commit{Depth: 64, Author: 5, Path: []api.Rung{{Wraps: []string{"ab"}}}, Info: "i", Welcomes: []api.Welcome{{Name: 9, Card: 2, Wrap: "w"}}}
	core := noughts + "\x40\x40" + "\x05" + "\x00" + noughts + noughts + "\x01" + noughts + "\x01" + "\x02ab"
	if got := commit.Core(c); got != core {
		t.Errorf("Core = %x, want %x", got, core)
	}
	want := core + "\x01i" + "\x01" + "\x09" + "\x02" + "\x01w" + noughts + noughts
	if got := commit.Pack(c); got != want {
		t.Errorf("Pack = %x, want %x", got, want)
	}
}

// Of all that a commit has nothing can be another way under one name; the core tells of all but Info, Welcomes, Tag and Sign.
func TestUnlikeCommitsHaveUnlikeBytes(t *testing.T) {
	c := full()
	for what, other := range map[string]func(c *api.Commit){
		"Parent":            func(c *api.Commit) { c.Parent[0]++ },
		"Depth":             func(c *api.Commit) { c.Depth++ },
		"Author":            func(c *api.Commit) { c.Author++ },
		"a proposal":        func(c *api.Commit) { c.Proposals[2].Seq++ },
		"its Sign":          func(c *api.Commit) { c.Proposals[2].Sign[31]++ },
		"a proposal fewer":  func(c *api.Commit) { c.Proposals = c.Proposals[:2] },
		"the order":         func(c *api.Commit) { c.Proposals[0], c.Proposals[1] = c.Proposals[1], c.Proposals[0] },
		"Leaf":              func(c *api.Commit) { c.Leaf[31]++ },
		"Above":             func(c *api.Commit) { c.Above[31]++ },
		"a rung's key":      func(c *api.Commit) { c.Path[2].Pub[31]++ },
		"a wrap":            func(c *api.Commit) { c.Path[0].Wraps[0] = "two" },
		"a wrap fewer":      func(c *api.Commit) { c.Path[2].Wraps = nil },
		"a rung fewer":      func(c *api.Commit) { c.Path = c.Path[:2] },
		"*Info":             func(c *api.Commit) { c.Info = "some more" },
		"*a welcome's name": func(c *api.Commit) { c.Welcomes[0].Name = 63 },
		"*its card":         func(c *api.Commit) { c.Welcomes[0].Card = 2 },
		"*its wrap":         func(c *api.Commit) { c.Welcomes[0].Wrap = "" },
		"*a welcome fewer":  func(c *api.Commit) { c.Welcomes = c.Welcomes[:1] },
		"*Tag":              func(c *api.Commit) { c.Tag[31]++ },
		"*Sign":             func(c *api.Commit) { c.Sign[31]++ },
	} {
		d := with(other)
		if commit.Pack(d) == commit.Pack(c) || commit.Id(d) == commit.Id(c) {
			t.Errorf("with another %s it has the same bytes or name", what)
		}
		if same := commit.Core(d) == commit.Core(c); same != strings.HasPrefix(what, "*") {
			t.Errorf("with another %s the same core: %t", what, same)
		}
	}
}

func wantRead(t *testing.T, what string, c api.Commit) {
	t.Helper()
	got, err := commit.Unpack(bytesOf(c))
	if err != api.OK {
		t.Errorf("%s: Unpack: %d", what, err)
		return
	}
	wantCommit(t, what, got, c)
	wantApart(t, what, map[string]any{"the answer": got, "what was packed": c})
}

func TestUnpack(t *testing.T) {
	for _, c := range edges() {
		wantRead(t, "an edge", c)
	}
	g := mixedGroup(t, nil)
	c, _ := g.build(t, 7, remove(g.any(), 5, 33), add(g.any(), 5, 3))
	wantRead(t, "a commit that was built", c)
}

func wantUnread(t *testing.T, what, bytes string, want api.Errno) {
	t.Helper()
	if c, err := commit.Unpack(bytes); err != want || !isNone(c) {
		t.Errorf("%s: Unpack: %d, want %d, with nothing: %t", what, err, want, isNone(c))
	}
}

func TestUnpackOfCutBytes(t *testing.T) {
	bytes := bytesOf(full())
	for n := range len(bytes) {
		wantUnread(t, "cut", bytes[:n], api.ErrShort)
	}
}

func TestUnpackOfMoreBytes(t *testing.T) {
	for _, c := range edges() {
		wantUnread(t, "one more", bytesOf(c)+"\x00", api.ErrTail)
	}
	wantUnread(t, "twice", bytesOf(full())+bytesOf(full()), api.ErrTail)
}

// pieces are the parts of a commit's bytes, with their names.
func pieces() (names []string, parts map[string]string) {
	names = []string{"Parent", "Depth", "Author", "proposals", "first", "second", "Leaf", "Above", "rungs", "Pub", "wraps", "wrap", "Info", "welcomes", "Name", "Card", "Wrap", "Tag", "Sign"}
	noughts := strings.Repeat("\x00", 32)
	return names, map[string]string{
		"Parent": noughts, "Depth": num(2), "Author": num(3), "proposals": num(2), "first": asText(proposalOf(proposal(api.Update, 3))), "second": asText(proposalOf(proposal(api.Add, 3))),
		"Leaf": noughts, "Above": noughts, "rungs": num(1), "Pub": noughts, "wraps": num(1), "wrap": asText("wrap"),
		"Info": asText("info"), "welcomes": num(1), "Name": num(4), "Card": num(5), "Wrap": asText("Wrap"), "Tag": noughts, "Sign": noughts,
	}
}

// joined are a commit's bytes with other parts in the place of some.
func joined(others map[string]string) string {
	names, parts := pieces()
	var b strings.Builder
	for _, name := range names {
		part, ok := others[name]
		if !ok {
			part = parts[name]
		}
		b.WriteString(part)
	}
	return b.String()
}

// longNum is a small number in more bytes than it needs.
func longNum(n int) string { return string([]byte{0x40, byte(n)}) }

func TestUnpackErrors(t *testing.T) {
	if _, err := commit.Unpack(joined(nil)); err != api.OK {
		t.Fatalf("Unpack of what is changed below: %d", err)
	}
	bad := proposal(api.Update, 3)
	bad.Change.Name = 4
	badBytes := proposalOf(bad)
	for _, x := range []struct {
		name, part string
		want       api.Errno
	}{
		{"Depth", num(0), api.ErrForm},
		{"Depth", longNum(2), api.ErrForm},
		{"Author", num(0), api.ErrForm},
		{"Author", longNum(3), api.ErrForm},
		{"Author", num(65), api.ErrLong},
		{"Author", num(api.MaxNum), api.ErrLong},
		{"proposals", num(17), api.ErrLong},
		{"proposals", num(api.MaxNum), api.ErrLong},
		{"proposals", longNum(2), api.ErrForm},
		{"first", asText(""), api.ErrShort},
		{"first", asText(proposalOf(bad)[:10]), api.ErrShort},
		{"first", asText(badBytes), api.ErrForm},
		{"second", asText(badBytes), api.ErrForm},
		{"second", asText(badBytes + "\x00"), api.ErrTail},
		{"first", asText(strings.Repeat("\x00", 32) + num(2) + num(65) + strings.Repeat("\x01", 99)), api.ErrLong},
		{"first", asText(strings.Repeat("\x01", 1024)), api.ErrTail},
		{"first", asText(strings.Repeat("\x01", 1025)), api.ErrLong},
		{"first", num(1025), api.ErrLong},
		{"rungs", num(65), api.ErrLong},
		{"rungs", num(api.MaxNum), api.ErrLong},
		{"rungs", longNum(1), api.ErrForm},
		{"wraps", num(65), api.ErrLong},
		{"wraps", longNum(1), api.ErrForm},
		{"wrap", num(1025) + strings.Repeat("x", 1025), api.ErrLong},
		{"wrap", longNum(1) + "x", api.ErrForm},
		{"Info", num(65537) + strings.Repeat("x", 65537), api.ErrLong},
		{"Info", longNum(1) + "x", api.ErrForm},
		{"welcomes", num(17), api.ErrLong},
		{"welcomes", longNum(1), api.ErrForm},
		{"Name", num(0), api.ErrForm},
		{"Name", num(65), api.ErrLong},
		{"Name", longNum(4), api.ErrForm},
		{"Card", longNum(5), api.ErrForm},
		{"Wrap", num(1025) + strings.Repeat("x", 1025), api.ErrLong},
		{"Wrap", longNum(1) + "x", api.ErrForm},
	} {
		wantUnread(t, x.name, joined(map[string]string{x.name: x.part}), x.want)
		// What isn't in its form is told behind all that can't be read.
		late := x.want == api.ErrForm && x.part == num(0)
		if late {
			wantUnread(t, x.name+" and one byte more", joined(map[string]string{x.name: x.part})+"\x00", api.ErrTail)
			wantUnread(t, x.name+" and one byte less", joined(map[string]string{x.name: x.part, "Sign": "x"}), api.ErrShort)
		} else {
			wantUnread(t, x.name+" and one byte more", joined(map[string]string{x.name: x.part})+"\x00", x.want)
			wantUnread(t, x.name+" and one byte less", joined(map[string]string{x.name: x.part, "Sign": "x"}), x.want)
		}
	}
}

// A proposal that isn't one is told as soon as its text is read, ahead of all that stands behind it; and behind what stands ahead.
func TestUnpackOfBadProposalsInOrder(t *testing.T) {
	head := strings.Repeat("\x00", 32) + num(2) + num(3)
	good, short, form := asText(proposalOf(proposal(api.Add, 3))), asText("too short"), asText(proposalOf(api.Proposal{}))
	wantUnread(t, "two bad ones", head+num(2)+short+form, api.ErrShort)
	wantUnread(t, "two bad ones", head+num(2)+form+short, api.ErrForm)
	wantUnread(t, "a bad one alone", head+num(2)+form, api.ErrForm)
	wantUnread(t, "a bad one, and none", head+num(2)+form+num(1025), api.ErrForm)
	wantUnread(t, "a good one, and a bad one", head+num(16)+good+form, api.ErrForm)
	wantUnread(t, "a good one alone", head+num(2)+good, api.ErrShort)
	wantUnread(t, "too many of them", head+num(17)+form, api.ErrLong)
	wantUnread(t, "a text that ends early", head+num(2)+form[:len(form)-1], api.ErrShort)
	wantUnread(t, "a wrong author ahead", strings.Repeat("\x00", 32)+num(2)+num(65)+num(1)+form, api.ErrLong)
	wantUnread(t, "no author ahead", strings.Repeat("\x00", 32)+num(2)+num(0)+num(1)+asText("too short"), api.ErrShort)
}

// Whatever bytes are changed, what is read has just these bytes.
func TestUnpackOfChangedBytes(t *testing.T) {
	bytes := bytesOf(full())
	read := 0
	for at := range len(bytes) {
		for _, flip := range []byte{0x01, 0x40, 0x80, 0xff} {
			changed := []byte(bytes)
			changed[at] ^= flip
			if wantOneForm(t, string(changed)) {
				read++
			}
		}
	}
	if read == 0 || read == 4*len(bytes) {
		t.Errorf("%d were read", read)
	}
}

func wantOneForm(t *testing.T, bytes string) bool {
	t.Helper()
	c, err := commit.Unpack(bytes)
	if err != api.OK {
		if !isNone(c) {
			t.Errorf("Unpack of %x: %d beside a commit", bytes, err)
		}
		return false
	}
	if !commit.Right(c) || commit.Pack(c) != bytes || commit.Id(c) != digest("epoch", bytes) {
		t.Errorf("Unpack of %x: a commit of other bytes", bytes)
	}
	return true
}

func FuzzUnpack(f *testing.F) {
	f.Add("")
	f.Add(bytesOf(full()))
	f.Add(joined(nil))
	f.Add(bytesOf(api.Commit{Depth: 1, Author: 1}))
	f.Fuzz(func(t *testing.T, bytes string) { wantOneForm(t, bytes) })
}

// What layer 10 says of a proposal's form is asked of each.
func TestRightAsksOfProposals(t *testing.T) {
	for _, p := range []api.Proposal{{}, {Author: 1, Seq: 1}, {Author: 1, Seq: 1, Change: api.Change{Kind: 4, Name: 1}}, proposal(api.Add, 65), proposal(api.Remove, 2)} {
		c := with(func(c *api.Commit) { c.Proposals = []api.Proposal{proposal(api.Add, 1), p} })
		if commit.Right(c) != change.Right(p) {
			t.Errorf("Right with the proposal %+v: %t", p, commit.Right(c))
		}
	}
}
