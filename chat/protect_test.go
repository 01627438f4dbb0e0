package chat_test

import (
	"encoding/binary"
	"fmt"
	"math"
	"strings"
	"testing"

	"bevy/api"
	"bevy/book"
	"bevy/chat"
	"bevy/era"
	"bevy/ppr"
)

// The chapter's example.

func TestExample(t *testing.T) {
	n := protect(t, nil, mixedEra(t, 5), "ab")
	if n.Gen != 0 || len(n.Text) != 18 {
		t.Errorf("the first note of 2 bytes has Gen %d and a Text of %d", n.Gen, len(n.Text))
	}
}

// Promise 14.2: Protect.

func TestProtect(t *testing.T) {
	f, s := mixedFrame(), secrets(60)
	for place, me := range mixed {
		if me == 0 {
			continue
		}
		b := book.New()
		e, bare := mixedEra(t, me), mixedEra(t, me)
		var gone []int
		var facts []api.Fact
		names := map[string]api.Hash{}
		for gen, said := range someTexts() {
			what := fmt.Sprint("the name ", me, ", the text ", gen)
			before := e.Copy()
			n := protect(t, b, e, said)
			if want := noteOf(f, s, place, gen, said); n != want {
				t.Errorf("%s: Protect = %+v, want %+v", what, n, want)
			}
			if !chat.Right(n) {
				t.Errorf("%s: the note isn't right", what)
			}
			if again := protect(t, nil, bare, said); again != n {
				t.Errorf("%s: without a book it is another note", what)
			}
			wantUsed(t, what, before, e, place, gen, 1)
			wantEra(t, what+", without a book", bare, e)
			facts = append(facts, factsOf(rootOf(s, place), gen, gone...)...)
			wantFacts(t, what, b, facts)
			gone = append(gone, gen)
			names[fmt.Sprintf("note %x %d %d", f.Id, me, gen)] = keyAt(rootOf(s, place), gen)
		}
		wantNames(t, fmt.Sprint("the name ", me), b, f.Id, names)
		wantNames(t, fmt.Sprint("the name ", me, " elsewhere"), b, f.Parent, nil)
	}
}

func TestProtectAtTheEdgesOfDepths(t *testing.T) {
	for _, depth := range []int{0, 63, 64, 1 << 14, 1 << 30, api.MaxNum - 1, api.MaxNum} {
		f := mixedFrame()
		f.Depth = depth
		e := made(t, nil, f, 64, secrets(60))
		if n, want := protect(t, nil, e, "deep"), noteOf(f, secrets(60), 4, 0, "deep"); n != want || !chat.Right(n) {
			t.Errorf("the depth %d: Protect = %+v, want %+v", depth, n, want)
		}
	}
}

func TestProtectInAFullTree(t *testing.T) {
	var names []int
	for name := 64; name > 0; name-- {
		names = append(names, name)
	}
	f := frameOf(names...)
	for place, me := range names {
		e := made(t, nil, f, me, secrets(7))
		if n, want := protect(t, nil, e, "one of many"), noteOf(f, secrets(7), place, 0, "one of many"); n != want {
			t.Errorf("the name %d: Protect = %+v, want %+v", me, n, want)
		}
	}
}

func TestProtectAlone(t *testing.T) {
	f := frameOf(9)
	e := made(t, nil, f, 9, secrets(7))
	if n, want := protect(t, nil, e, "anybody?"), noteOf(f, secrets(7), 0, 0, "anybody?"); n != want {
		t.Errorf("Protect = %+v, want %+v", n, want)
	}
}

// wantNotProtected demands an error, and that nothing has changed by it. (An era with numbers that it can't have has no bytes: of it Sent alone is asked.)
func wantNotProtected(t *testing.T, what string, want api.Errno, e *era.Era, said string) {
	t.Helper()
	b, bytes, sent := book.New(), e.Pack(), 0
	if e != nil {
		sent = e.Sent
	}
	for _, of := range []*book.Book{nil, b} {
		if n, err := chat.Protect(of, e, said); err != want || n != (api.Note{}) {
			t.Errorf("%s: Protect = %+v, %d, want the error %d", what, n, err, want)
		}
	}
	if e.Pack() != bytes || e != nil && e.Sent != sent {
		t.Errorf("%s: the era has changed", what)
	}
	wantFacts(t, what, b, nil)
	if e != nil {
		wantNames(t, what, b, e.Id, nil)
	}
}

func TestProtectOfNoEra(t *testing.T) {
	wantNotProtected(t, "no era", api.ErrArg, nil, "ab")
	wantNotProtected(t, "no era, and a long text", api.ErrArg, nil, strings.Repeat("x", 1025))
}

func TestProtectOfLongTexts(t *testing.T) {
	for _, size := range []int{1025, 1026, 1040, 1041, 65536, 65537, 1 << 20} {
		e := mixedEra(t, 4)
		wantNotProtected(t, fmt.Sprint("a text of ", size), api.ErrLong, e, strings.Repeat("x", size))
		e.Sent = 256
		wantNotProtected(t, fmt.Sprint("a text of ", size, ", and all Sent"), api.ErrLong, e, strings.Repeat("x", size))
		e.Apps[3].Take(nil, 5)
		e.Sent = 5
		wantNotProtected(t, fmt.Sprint("a text of ", size, ", and the key is gone"), api.ErrLong, e, strings.Repeat("x", size))
	}
	e := mixedEra(t, 4)
	wantNotProtected(t, "a long text", api.ErrLong, e, strings.Repeat("x", 1025))
	if n, want := protect(t, nil, e, "short"), noteOf(mixedFrame(), secrets(60), 3, 0, "short"); n != want {
		t.Errorf("behind a long text Protect = %+v, want %+v", n, want)
	}
}

func TestProtectTillAllAreSent(t *testing.T) {
	b, f, s, e := book.New(), mixedFrame(), secrets(60), mixedEra(t, 64)
	seen := map[string]bool{}
	names := map[string]api.Hash{}
	for gen := range 256 {
		n := protect(t, b, e, "the same text")
		if want := noteOf(f, s, 4, gen, "the same text"); n != want {
			t.Fatalf("the note %d = %+v, want %+v", gen, n, want)
		}
		if seen[n.Text] {
			t.Errorf("the note %d has another one's Text", gen)
		}
		seen[n.Text] = true
		names[fmt.Sprintf("note %x 64 %d", f.Id, gen)] = keyAt(rootOf(s, 4), gen)
	}
	if e.Sent != 256 || len(e.Apps[4].Seeds()) != 0 {
		t.Errorf("with all said %d were Sent, and %d seeds are left", e.Sent, len(e.Apps[4].Seeds()))
	}
	wantNames(t, "all said", b, f.Id, names)
	for range 3 {
		wantNotProtected(t, "all said", api.ErrSpent, e, "one more")
	}
	apart, err := era.Unpack(e.Pack())
	if err != api.OK {
		t.Fatalf("Unpack: %d", err)
	}
	wantNotProtected(t, "all said, and unpacked", api.ErrSpent, apart, "one more")
}

// Once so many were Sent nothing is said any more, even if there are keys.
func TestProtectWithAllSent(t *testing.T) {
	for _, sent := range []int{256, 257, 512, 1 << 32, api.MaxNum, api.MaxNum + 1, math.MaxInt} {
		e := mixedEra(t, 4)
		e.Sent = sent
		wantNotProtected(t, fmt.Sprint(sent, " Sent"), api.ErrSpent, e, "ab")
	}
	// Nor by a row that has more keys.
	for _, sent := range []int{256, 257, 1<<32 - 1} {
		e := mixedEra(t, 4)
		e.Apps[3], _ = ppr.New(key(1), api.MaxBits)
		e.Sent = sent
		wantNotProtected(t, fmt.Sprint(sent, " Sent, with a long row"), api.ErrSpent, e, "ab")
		if e.Apps[3].Gone(sent) {
			t.Errorf("%d Sent, with a long row: the key is gone", sent)
		}
	}
	// Of no place the key is gone, as layer 6 says.
	for _, sent := range []int{-1, -256, math.MinInt} {
		e := mixedEra(t, 4)
		e.Sent = sent
		wantNotProtected(t, fmt.Sprint(sent, " Sent"), api.ErrSpent, e, "ab")
	}
}

func TestProtectByKeysThatAreGone(t *testing.T) {
	e := mixedEra(t, 4)
	e.Apps[3].Take(nil, 2)
	protect(t, nil, e, "nought")
	protect(t, nil, e, "one")
	wantNotProtected(t, "the key 2 is gone", api.ErrSpent, e, "two")
	wantNotProtected(t, "the key 2 is gone still", api.ErrSpent, e, "")
	e.Sent = 3
	if n, want := protect(t, nil, e, "three"), noteOf(mixedFrame(), secrets(60), 3, 3, "three"); n != want {
		t.Errorf("behind a key that is gone Protect = %+v, want %+v", n, want)
	}
	e.Sent = 255
	if n, want := protect(t, nil, e, "the last"), noteOf(mixedFrame(), secrets(60), 3, 255, "the last"); n != want || e.Sent != 256 {
		t.Errorf("at the last key Protect = %+v, want %+v", n, want)
	}
	wantNotProtected(t, "the last key is gone", api.ErrSpent, e, "")
	e.Sent = 0
	wantNotProtected(t, "the first key is gone", api.ErrSpent, e, "")
}

// Whoever isn't a member has no row, of which all keys are gone.
func TestProtectWithoutARow(t *testing.T) {
	for what, change := range map[string]func(e *era.Era){
		"no member":        func(e *era.Era) { e.Me = 2 },
		"nobody":           func(e *era.Era) { e.Me = 0 },
		"no rows":          func(e *era.Era) { e.Apps = nil },
		"too few rows":     func(e *era.Era) { e.Apps = e.Apps[:3] },
		"no row of its":    func(e *era.Era) { e.Apps[3] = nil },
		"no tree":          func(e *era.Era) { e.Tree = api.Tree{} },
		"a tree not right": func(e *era.Era) { e.Tree.Parents = nil },
	} {
		e := mixedEra(t, 4)
		change(e)
		wantNotProtected(t, what, api.ErrSpent, e, "ab")
	}
}

func TestProtectWithAFullBook(t *testing.T) {
	if testing.Short() {
		t.Skip("it fills a book")
	}
	b := book.New()
	var h api.Hash
	for i := range api.MaxBook {
		binary.BigEndian.PutUint32(h[:], uint32(i))
		b.Note(api.Fact{Ins: []api.Hash{h}, Outs: []api.Hash{h}})
	}
	e, other := mixedEra(t, 4), mixedEra(t, 5)
	n := protect(t, b, e, "said all the same")
	if want := noteOf(mixedFrame(), secrets(60), 3, 0, "said all the same"); n != want {
		t.Errorf("with a full book Protect = %+v, want %+v", n, want)
	}
	if said, err := chat.Unprotect(b, other, n); said != "said all the same" || err != api.OK {
		t.Errorf("with a full book Unprotect = %q, %d", said, err)
	}
	wantNames(t, "a full book", b, n.Epoch, map[string]api.Hash{nameOf(n.Epoch, 4, 0): keyAt(rootOf(secrets(60), 3), 0)})
	if b.Len() != api.MaxBook {
		t.Errorf("a full book has %d facts", b.Len())
	}
}
