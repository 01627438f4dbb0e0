package chat_test

import (
	"fmt"
	"math/rand"
	"testing"

	"bevy/api"
	"bevy/book"
	"bevy/change"
	"bevy/chat"
	"bevy/commit"
	"bevy/era"
	"bevy/prim"
	"bevy/sha"
)

// Promise 14.4: what holds.

// letter is a note on its way, with what was said.
type letter struct {
	from *era.Era
	note api.Note
	said string
}

// wantHeard demands that a letter is opened by all others, once, and then is a replay.
func wantHeard(t *testing.T, b *book.Book, group []*era.Era, l letter) {
	t.Helper()
	what := fmt.Sprint("from ", l.note.Author, ", gen ", l.note.Gen)
	for _, e := range group {
		want := api.ErrReplay
		if e == l.from {
			want = api.ErrArg
		} else if got, err := chat.Unprotect(b, e, l.note); got != l.said || err != api.OK {
			t.Errorf("%s: to %d Unprotect = %q, %d, want %q", what, e.Me, got, err, l.said)
		}
		if got, err := chat.Unprotect(b, e, l.note); got != "" || err != want {
			t.Errorf("%s: again to %d Unprotect = %q, %d, want the error %d", what, e.Me, got, err, want)
		}
	}
}

func TestTalk(t *testing.T) {
	for seed := range 6 {
		r := rand.New(rand.NewSource(int64(seed)))
		b, group := book.New(), []*era.Era(nil)
		for _, me := range mixed {
			if me != 0 {
				group = append(group, made(t, b, mixedFrame(), me, secrets(60)))
			}
		}
		var ways []letter
		for said := 0; said < 150 || len(ways) > 0; said++ {
			if from := group[r.Intn(len(group))]; said < 150 {
				text := fmt.Sprint(said, " by ", from.Me)
				n, err := chat.Unpack(chat.Pack(protect(t, b, from, text)))
				if err != api.OK {
					t.Fatalf("Unpack: %d", err)
				}
				ways = append(ways, letter{from, n, text})
			}
			if r.Intn(3) > 0 {
				at := r.Intn(len(ways))
				wantHeard(t, b, group, ways[at])
				ways = append(ways[:at], ways[at+1:]...)
			}
			if r.Intn(20) == 0 { // one of them goes on from its bytes
				at := r.Intn(len(group))
				packed, err := era.Unpack(group[at].Pack())
				if err != api.OK {
					t.Fatalf("Unpack: %d", err)
				}
				for i := range ways {
					if ways[i].from == group[at] {
						ways[i].from = packed
					}
				}
				group[at] = packed
			}
		}
	}
}

// All orders of four notes, from two authors.
func TestAnyOrder(t *testing.T) {
	from, other := mixedEra(t, 5), mixedEra(t, 64)
	var ways []letter
	for i := range 2 {
		ways = append(ways, letter{from, protect(t, nil, from, fmt.Sprint("one ", i)), fmt.Sprint("one ", i)})
		ways = append(ways, letter{other, protect(t, nil, other, fmt.Sprint("other ", i)), fmt.Sprint("other ", i)})
	}
	var walk func(to *era.Era, left []letter)
	walk = func(to *era.Era, left []letter) {
		for i, l := range left {
			e := to.Copy()
			wantHeard(t, nil, []*era.Era{e}, l)
			rest := append(append([]letter(nil), left[:i]...), left[i+1:]...)
			walk(e, rest)
		}
	}
	walk(mixedEra(t, 4), ways)
}

// What came to light doesn't tell what was said ahead, but what still can be opened.
func TestWhatComesToLight(t *testing.T) {
	b := book.New()
	from, to, late := made(t, b, mixedFrame(), 5, secrets(60)), made(t, b, mixedFrame(), 64, secrets(60)), made(t, b, mixedFrame(), 4, secrets(60))
	var notes []api.Note
	for i := range 40 {
		notes = append(notes, protect(t, b, from, fmt.Sprint("number ", i)))
	}
	open := map[int]bool{}
	for _, i := range rand.New(rand.NewSource(3)).Perm(40) {
		wantOpened(t, "a note", to, notes[i], fmt.Sprint("number ", i))
		open[i] = true
		if i%10 != 0 {
			continue
		}
		for k, n := range notes {
			h, ok := b.Named(chat.Name(n.Epoch, 5, k))
			if !ok || h != keyAt(rootOf(secrets(60), 0), k) {
				t.Fatalf("the key %d has no name, or another key's: %x, %t", k, h, ok)
			}
			if b.Knows(h, from.Secrets()...) {
				t.Errorf("who said the note %d can open it still", k)
			}
			if b.Knows(h, to.Secrets()...) == open[k] {
				t.Errorf("to the key of the note %d, which was opened: %t, the secrets lead: %t", k, open[k], !open[k])
			}
			if !b.Knows(h, late.Secrets()...) {
				t.Errorf("who hasn't opened the note %d can't", k)
			}
		}
	}
	next := protect(t, b, from.Copy(), "not said yet")
	h, _ := b.Named(chat.Name(next.Epoch, 5, next.Gen))
	if !b.Knows(h, from.Secrets()...) || !b.Knows(h, to.Secrets()...) {
		t.Errorf("what isn't said yet doesn't follow")
	}
}

// The copy of an era goes on by itself.
func TestCopies(t *testing.T) {
	from, to := mixedEra(t, 5), mixedEra(t, 64)
	apart, kept := to.Copy(), from.Copy()
	n := protect(t, nil, from, "ab")
	wantOpened(t, "the first", to, n, "ab")
	wantOpened(t, "the copy", apart, n, "ab")
	wantEra(t, "the copies", apart, to)
	if again := protect(t, nil, kept, "ab"); again != n {
		t.Errorf("the copy says %+v, want %+v", again, n)
	}
	wantEra(t, "the copies", kept, from)
}

// People of a group that commits.

func signer(name int) api.Hash { return key(500 + name) }

func cardOf(name int) api.Card { return api.Card{Init: key(600 + name), Leaf: key(700 + name)} }

func rollOf(n int) []api.Person {
	var roll []api.Person
	for name := 1; name <= n; name++ {
		card := api.Card{Init: prim.Pub(nil, cardOf(name).Init), Leaf: prim.Pub(nil, cardOf(name).Leaf)}
		roll = append(roll, api.Person{Verify: prim.Verify(signer(name)), Cards: []api.Card{card}})
	}
	return roll
}

// invited are the eras of 1 to n, where 1 has founded a group, and taken in all others by one commit.
func invited(t *testing.T, b *book.Book, n int) []*era.Era {
	t.Helper()
	roll := rollOf(n)
	begun, err := era.Found(b, roll, 1, key(1), cardOf(1).Leaf)
	if err != api.OK {
		t.Fatalf("Found: %d", err)
	}
	var list []api.Proposal
	for name := 2; name <= n; name++ {
		p := api.Proposal{Epoch: begun.Id, Author: 1, Seq: 1, Change: api.Change{Kind: api.Add, Name: name}}
		list = append(list, change.Sign(p, signer(1)))
	}
	c, first, err := commit.Build(b, begun, roll, signer(1), list, key(2))
	if err != api.OK {
		t.Fatalf("Build: %d", err)
	}
	group := []*era.Era{first}
	for name := 2; name <= n; name++ {
		e, err := commit.Join(b, name, c, []api.Card{cardOf(name)})
		if err != api.OK {
			t.Fatalf("Join: %d", err)
		}
		group = append(group, e)
	}
	return group
}

// renewed are the eras of the epoch that one of a group makes by a commit without proposals.
func renewed(t *testing.T, b *book.Book, group []*era.Era, by int, once api.Hash) []*era.Era {
	t.Helper()
	roll := rollOf(len(group))
	c, own, err := commit.Build(b, group[by], roll, signer(by+1), nil, once)
	if err != api.OK {
		t.Fatalf("Build: %d", err)
	}
	behind := make([]*era.Era, len(group))
	for i, e := range group {
		if i == by {
			behind[i] = own
			continue
		}
		behind[i], _, err = commit.Process(b, e, roll, c, nil)
		if err != api.OK {
			t.Fatalf("Process: %d", err)
		}
	}
	return behind
}

func TestTalkInAGroup(t *testing.T) {
	b := book.New()
	old := invited(t, b, 5)
	one, two := renewed(t, b, old, 3, key(3)), renewed(t, b, old, 1, key(4))
	for i := range 5 {
		for what, group := range map[string][]*era.Era{"the old epoch": old, "a fork": one, "the other fork": two} {
			n := protect(t, b, group[i], what)
			for _, other := range [][]*era.Era{old, one, two} {
				if other[0].Id != group[0].Id {
					wantRefused(t, what, api.ErrNone, other[(i+1)%5], n)
				}
			}
			wantHeard(t, b, group, letter{group[i], n, what})
		}
	}
}

// One epoch's secrets tell nothing of what is said in another one, ahead or beside.
func TestEpochsAreApart(t *testing.T) {
	b := book.New()
	old := invited(t, b, 3)
	one, two := renewed(t, b, old, 0, key(3)), renewed(t, b, old, 1, key(4))
	// A copy says it, so that its keys can be asked for of those who have them still.
	said := func(e *era.Era) api.Hash {
		n := protect(t, b, e.Copy(), "ab")
		h, ok := b.Named("note " + sha.Hex(e.Id) + fmt.Sprintf(" %d %d", n.Author, n.Gen))
		if !ok {
			t.Fatalf("the key has no name")
		}
		return h
	}
	for i, group := range [][]*era.Era{old, one, two} {
		for j, other := range [][]*era.Era{old, one, two} {
			for _, e := range group {
				h := said(e)
				for _, f := range other {
					if got := b.Knows(h, f.Secrets()...); got != (i == j) {
						t.Errorf("what %d says in the epoch %d follows of what %d has of the epoch %d: %t", e.Me, i, f.Me, j, got)
					}
				}
			}
		}
	}
}
