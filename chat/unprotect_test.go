package chat_test

import (
	"fmt"
	"math/rand"
	"slices"
	"strings"
	"testing"

	"bevy/api"
	"bevy/book"
	"bevy/chat"
	"bevy/era"
)

// Promise 14.3: Unprotect.

func TestUnprotect(t *testing.T) {
	f, s := mixedFrame(), secrets(60)
	for place, author := range mixed {
		for _, me := range mixed {
			if author == 0 || me == 0 || author == me {
				continue
			}
			b := book.New()
			e, bare := mixedEra(t, me), mixedEra(t, me)
			var gone []int
			var facts []api.Fact
			for i, said := range someTexts() {
				gen := i * 91 % 256 // neither in order, nor twice
				what := fmt.Sprint("from ", author, " to ", me, ", gen ", gen)
				before := e.Copy()
				n := noteOf(f, s, place, gen, said)
				if got, err := chat.Unprotect(b, e, n); got != said || err != api.OK {
					t.Errorf("%s: Unprotect = %q, %d, want %q", what, got, err, said)
				}
				if got, err := chat.Unprotect(nil, bare, n); got != said || err != api.OK {
					t.Errorf("%s: without a book Unprotect = %q, %d, want %q", what, got, err, said)
				}
				wantUsed(t, what, before, e, place, gen, 0)
				wantEra(t, what+", without a book", bare, e)
				facts = append(facts, factsOf(rootOf(s, place), gen, gone...)...)
				wantFacts(t, what, b, facts)
				gone = append(gone, gen)
			}
			wantNames(t, fmt.Sprint("from ", author, " to ", me), b, f.Id, nil)
		}
	}
}

// wantRefused demands an error, and that nothing has changed by it.
func wantRefused(t *testing.T, what string, want api.Errno, e *era.Era, n api.Note) {
	t.Helper()
	b, before := book.New(), e.Pack()
	for _, of := range []*book.Book{nil, b} {
		if got, err := chat.Unprotect(of, e, n); err != want || got != "" {
			t.Errorf("%s: Unprotect = %q, %d, want the error %d", what, got, err, want)
		}
	}
	if e.Pack() != before {
		t.Errorf("%s: the era has changed", what)
	}
	wantFacts(t, what, b, nil)
	if _, ok := b.Named(nameOf(n.Epoch, n.Author, n.Gen)); ok {
		t.Errorf("%s: the key has a name", what)
	}
}

// wantOpened demands that a note is opened.
func wantOpened(t *testing.T, what string, e *era.Era, n api.Note, said string) {
	t.Helper()
	if got, err := chat.Unprotect(nil, e, n); got != said || err != api.OK {
		t.Errorf("%s: Unprotect = %q, %d, want %q", what, got, err, said)
	}
}

// fault is what is wrong with a note, or with who opens it, and what the answer is then.
type fault struct {
	what string
	rank int // that of the error in the chapter's order
	want api.Errno
	make func(e **era.Era, n *api.Note)
}

// faults are those of a note of the name 33, of gen 7, to the name 5; the gen 9 of all is gone.
func faults() []fault {
	list := []fault{
		{"no era", 0, api.ErrArg, func(e **era.Era, n *api.Note) { *e = nil }},
		{"another epoch", 2, api.ErrNone, func(e **era.Era, n *api.Note) { n.Epoch[31]++ }},
		{"the epoch ahead", 2, api.ErrNone, func(e **era.Era, n *api.Note) { n.Epoch = mixedFrame().Parent }},
		{"no epoch", 2, api.ErrNone, func(e **era.Era, n *api.Note) { n.Epoch = api.Hash{} }},
		{"a depth less", 3, api.ErrDepth, func(e **era.Era, n *api.Note) { n.Depth = 69 }},
		{"a depth more", 3, api.ErrDepth, func(e **era.Era, n *api.Note) { n.Depth = 71 }},
		{"the depth 0", 3, api.ErrDepth, func(e **era.Era, n *api.Note) { n.Depth = 0 }},
		{"the depth MaxNum", 3, api.ErrDepth, func(e **era.Era, n *api.Note) { n.Depth = api.MaxNum }},
		{"the author 2", 4, api.ErrOut, func(e **era.Era, n *api.Note) { n.Author = 2 }},
		{"the author 63", 4, api.ErrOut, func(e **era.Era, n *api.Note) { n.Author = 63 }},
		{"the author Me", 5, api.ErrArg, func(e **era.Era, n *api.Note) { n.Author = 5 }},
		{"the gen is gone", 6, api.ErrReplay, func(e **era.Era, n *api.Note) { n.Gen = 9 }},
		{"no text", 7, api.ErrShort, func(e **era.Era, n *api.Note) { n.Text = "" }},
		{"a text of 15", 7, api.ErrShort, func(e **era.Era, n *api.Note) { n.Text = n.Text[:min(15, len(n.Text))] }},
		{"a text of 16", 8, api.ErrSeal, func(e **era.Era, n *api.Note) { n.Text = strings.Repeat("x", 16) }},
		{"a text of 1040", 8, api.ErrSeal, func(e **era.Era, n *api.Note) { n.Text = strings.Repeat("x", 1040) }},
	}
	for what, n := range wrongs() {
		if what == "nothing" {
			continue
		}
		// The one part that is wrong.
		list = append(list, fault{what, 1, api.ErrForm, func(e **era.Era, m *api.Note) {
			switch good := full(); {
			case n.Depth != good.Depth:
				m.Depth = n.Depth
			case n.Author != good.Author:
				m.Author = n.Author
			case n.Gen != good.Gen:
				m.Gen = n.Gen
			default:
				m.Text = n.Text
			}
		}})
	}
	return list
}

func TestUnprotectErrors(t *testing.T) {
	list := faults()
	start := mixedEra(t, 5)
	for _, row := range start.Apps {
		row.Take(nil, 9)
	}
	good := noteOf(mixedFrame(), secrets(60), 1, 7, "what was said")
	for _, x := range list {
		for _, y := range list {
			if x.rank > y.rank {
				continue
			}
			e, n := start.Copy(), good
			mine := e
			y.make(&e, &n)
			x.make(&e, &n)
			wantRefused(t, x.what+", and "+y.what, x.want, e, n)
			wantEra(t, x.what+", and "+y.what, mine, start)
		}
	}
	wantOpened(t, "nothing wrong", start, good, "what was said")
}

// Each bit of a note counts: a changed one is refused, and the right one is opened behind all of them.
func TestUnprotectOfChangedNotes(t *testing.T) {
	e := mixedEra(t, 5)
	good := noteOf(mixedFrame(), secrets(60), 1, 7, "what was said")
	for at := range len(good.Text) {
		for bit := range 8 {
			n, changed := good, []byte(good.Text)
			changed[at] ^= 1 << bit
			n.Text = string(changed)
			wantRefused(t, fmt.Sprint("the bit ", bit, " of ", at), api.ErrSeal, e, n)
		}
	}
	for size := range len(good.Text) {
		n, want := good, api.ErrSeal
		n.Text = good.Text[:size]
		if size < 16 {
			want = api.ErrShort
		}
		wantRefused(t, fmt.Sprint("cut to ", size), want, e, n)
	}
	n := good
	n.Text += "\x00"
	wantRefused(t, "one byte more", api.ErrSeal, e, n)
	for gen := range 256 {
		if n = good; gen != n.Gen {
			n.Gen = gen
			wantRefused(t, fmt.Sprint("the gen ", gen), api.ErrSeal, e, n)
		}
	}
	for _, author := range mixed {
		if n = good; author != 0 && author != 33 && author != 5 {
			n.Author = author
			wantRefused(t, fmt.Sprint("the author ", author), api.ErrSeal, e, n)
		}
	}
	wantOpened(t, "behind all", e, good, "what was said")
	wantRefused(t, "once more", api.ErrReplay, e, good)
}

// The head is bound by the seal: a key used about another head opens nothing.
func TestUnprotectAboutAnotherHead(t *testing.T) {
	f, s, e := mixedFrame(), secrets(60), mixedEra(t, 5)
	good := noteOf(f, s, 1, 7, "what was said")
	for what, change := range map[string]func(n *api.Note){
		"Epoch":  func(n *api.Note) { n.Epoch[0]++ },
		"Depth":  func(n *api.Note) { n.Depth++ },
		"Author": func(n *api.Note) { n.Author = 4 },
		"Gen":    func(n *api.Note) { n.Gen++ },
	} {
		about, n := good, good
		change(&about)
		n.Text = sealOf(keyAt(rootOf(s, 1), 7), headOf(about), "what was said")
		wantRefused(t, "sealed about another "+what, api.ErrSeal, e, n)
	}
	n := good
	n.Text = sealOf(keyAt(rootOf(s, 1), 7), "", "what was said")
	wantRefused(t, "sealed about nothing", api.ErrSeal, e, n)
	n.Text = sealOf(keyAt(rootOf(s, 3), 7), headOf(good), "what was said")
	wantRefused(t, "sealed with another one's key", api.ErrSeal, e, n)
	wantOpened(t, "behind all", e, good, "what was said")
}

// The longest text that can be sealed is opened; a longer one isn't a note's.
func TestUnprotectOfLongTexts(t *testing.T) {
	f, s, e := mixedFrame(), secrets(60), mixedEra(t, 5)
	for gen, size := range []int{1023, 1024} {
		said := strings.Repeat("z", size)
		wantOpened(t, fmt.Sprint("a text of ", size), e, noteOf(f, s, 1, gen, said), said)
	}
	for _, size := range []int{1025, 1026, 65536} {
		wantRefused(t, fmt.Sprint("a text of ", size), api.ErrForm, e, noteOf(f, s, 1, 9, strings.Repeat("z", size)))
	}
}

func TestUnprotectOnce(t *testing.T) {
	f, s, e := mixedFrame(), secrets(60), mixedEra(t, 1)
	var notes []api.Note
	for _, i := range rand.New(rand.NewSource(14)).Perm(256 * 4) {
		gen, place := i/4, []int{0, 1, 3, 4}[i%4]
		n := noteOf(f, s, place, gen, fmt.Sprint("number ", i))
		wantOpened(t, fmt.Sprint("the note ", i), e, n, fmt.Sprint("number ", i))
		if i%16 == 0 {
			notes = append(notes, n)
		}
	}
	for i, n := range notes {
		wantRefused(t, fmt.Sprint("again, the note ", i), api.ErrReplay, e, n)
		n.Text = ""
		wantRefused(t, fmt.Sprint("again without a text, the note ", i), api.ErrReplay, e, n)
	}
	// What the others said doesn't take what oneself has to say.
	if n, want := protect(t, nil, e, "at last"), noteOf(f, s, 5, 0, "at last"); n != want {
		t.Errorf("Protect = %+v, want %+v", n, want)
	}
}

// An author without a row has no key that isn't gone.
func TestUnprotectWithoutARow(t *testing.T) {
	good := noteOf(mixedFrame(), secrets(60), 3, 7, "what was said")
	for what, change := range map[string]func(e *era.Era){
		"no rows":      func(e *era.Era) { e.Apps = nil },
		"too few rows": func(e *era.Era) { e.Apps = e.Apps[:3] },
		"no such row":  func(e *era.Era) { e.Apps[3] = nil },
	} {
		e := mixedEra(t, 5)
		change(e)
		wantRefused(t, what, api.ErrReplay, e, good)
	}
	e := mixedEra(t, 5)
	e.Tree = api.Tree{}
	wantRefused(t, "no tree", api.ErrOut, e, good)
	// Of who isn't a member it is told ahead of who opens it.
	e = mixedEra(t, 5)
	e.Me = 2
	n := good
	n.Author = 2
	wantRefused(t, "Me is no member", api.ErrOut, e, n)
}

// Whatever comes, what is opened is what was said, and what is refused changes nothing.
func FuzzUnprotect(f *testing.F) {
	good := noteOf(mixedFrame(), secrets(60), 3, 7, "what was said")
	f.Add(true, 0, 4, 7, good.Text)
	f.Add(true, 0, 4, 8, good.Text)
	f.Add(true, 1, 64, 0, good.Text)
	f.Add(false, -70, 5, 255, "")
	f.Add(true, 0, -1, 256, strings.Repeat("x", 1041))
	f.Fuzz(func(t *testing.T, here bool, deeper, author, gen int, sealed string) {
		e := mixedEra(t, 5)
		before := e.Copy()
		n := api.Note{Epoch: e.Id, Depth: e.Depth + deeper, Author: author, Gen: gen, Text: sealed}
		if !here {
			n.Epoch = e.Parent
		}
		said, err := chat.Unprotect(nil, e, n)
		if err != api.OK {
			if said != "" {
				t.Errorf("Unprotect of %+v = %q, %d", n, said, err)
			}
			wantEra(t, "refused", e, before)
			return
		}
		place := slices.Index(mixed, author)
		if n != noteOf(mixedFrame(), secrets(60), place, gen, said) {
			t.Errorf("Unprotect of %+v = %q", n, said)
		}
		wantUsed(t, "opened", before, e, place, gen, 0)
	})
}
