package chat_test

import (
	"crypto/hmac"
	"crypto/sha256"
	"encoding/binary"
	"fmt"
	"slices"
	"strings"
	"testing"

	"bevy/api"
	"bevy/book"
	"bevy/chat"
	"bevy/era"
	"bevy/keys"
)

// The chapters' words, told once more by the standard library alone.

func digest(parts ...string) api.Hash { return sha256.Sum256([]byte(strings.Join(parts, ""))) }

func text(h api.Hash) string { return string(h[:]) }

func code(key api.Hash, text string) api.Hash {
	c := hmac.New(sha256.New, key[:])
	c.Write([]byte(text))
	return api.Hash(c.Sum(nil))
}

// four are the four bytes of a number.
func four(n int) string { return string(binary.BigEndian.AppendUint32(nil, uint32(n))) }

func derived(key api.Hash, label, context string) api.Hash {
	return code(key, four(len(label))+label+context)
}

func sealOf(key api.Hash, about, plain string) string {
	var b strings.Builder
	row := derived(key, "stream", "")
	for at := 0; at < len(plain); at += 32 {
		block := code(row, four(at/32))
		for i, c := range []byte(plain[at:min(at+32, len(plain))]) {
			b.WriteByte(c ^ block[i])
		}
	}
	tag := derived(derived(key, "tag", ""), about, b.String())
	return b.String() + string(tag[:16])
}

// num is a number as layer 1 writes it.
func num(n int) string {
	switch {
	case n < 1<<6:
		return string([]byte{byte(n)})
	case n < 1<<14:
		return string(binary.BigEndian.AppendUint16(nil, uint16(n|1<<14)))
	case n < 1<<30:
		return string(binary.BigEndian.AppendUint32(nil, uint32(n|2<<30)))
	}
	return string(binary.BigEndian.AppendUint64(nil, uint64(n)|3<<62))
}

// longNum is a small number in more bytes than it needs.
func longNum(n int) string { return string([]byte{0x40 | byte(n>>8), byte(n)}) }

func asText(bytes string) string { return num(len(bytes)) + bytes }

func headOf(n api.Note) string { return text(n.Epoch) + num(n.Depth) + num(n.Author) + num(n.Gen) }

func bytesOf(n api.Note) string { return headOf(n) + asText(n.Text) }

// wayOf are the seeds on the way to a place of a row of 8 bits, that of the root first, and those on the left and the right below each of them.
func wayOf(root api.Hash, place int) (way, lefts, rights []api.Hash) {
	way = []api.Hash{root}
	for bit := 7; bit >= 0; bit-- {
		left, right := digest("left", text(root)), digest("right", text(root))
		lefts, rights = append(lefts, left), append(rights, right)
		root = left
		if place>>bit&1 == 1 {
			root = right
		}
		way = append(way, root)
	}
	return way, lefts, rights
}

// keyAt is the key at a place of a row of 8 bits.
func keyAt(root api.Hash, place int) api.Hash {
	way, _, _ := wayOf(root, place)
	return digest("key", text(way[8]))
}

// factsOf are those of a key that is taken out of a row of 8 bits, of which some places are gone.
func factsOf(root api.Hash, place int, gone ...int) []api.Fact {
	level := 0 // on which the seed stands that the row has
	for _, other := range gone {
		for level < 8 && other>>(8-level) == place>>(8-level) {
			level++
		}
	}
	way, lefts, rights := wayOf(root, place)
	var facts []api.Fact
	for ; level < 8; level++ {
		facts = append(facts, api.Fact{Ins: []api.Hash{way[level]}, Outs: []api.Hash{lefts[level], rights[level]}})
	}
	return append(facts, api.Fact{Ins: []api.Hash{way[8]}, Outs: []api.Hash{digest("key", text(way[8]))}})
}

func nameOf(epoch api.Hash, author, gen int) string {
	return fmt.Sprintf("note %x %d %d", epoch, author, gen)
}

// rootOf is of what the row of who stands at a place is made.
func rootOf(s keys.Secrets, place int) api.Hash { return derived(s.Apps, "app", num(place)) }

// noteOf is the note that the name at a place makes of a text.
func noteOf(f era.Frame, s keys.Secrets, place, gen int, said string) api.Note {
	n := api.Note{Epoch: f.Id, Depth: f.Depth, Author: f.Tree.Leaves[place].Name, Gen: gen}
	n.Text = sealOf(keyAt(rootOf(s, place), gen), headOf(n), said)
	return n
}

// Keys, frames, eras.

// key is the n-th of many keys.
func key(n int) api.Hash {
	var h api.Hash
	binary.BigEndian.PutUint64(h[8:], uint64(n)+1)
	h[0], h[31] = 0xa5, byte(n)
	return h
}

func secrets(n int) keys.Secrets {
	return keys.Secrets{Joiner: key(n), Welcome: key(n + 1), Epoch: key(n + 2), Init: key(n + 3), Confirm: key(n + 4), Apps: key(n + 5), Export: key(n + 6)}
}

// frameOf is a frame whose leaves have these names, by places; 0 is a blank one.
func frameOf(names ...int) era.Frame {
	f := era.Frame{Id: key(51), Parent: key(52), Depth: 70, Said: key(53)}
	f.Tree.Parents = make([]api.Parent, len(names)-1)
	for _, name := range names {
		leaf := api.Leaf{Name: name}
		if name != 0 {
			leaf.Pub, leaf.Verify = key(1000+name), key(2000+name)
		}
		f.Tree.Leaves = append(f.Tree.Leaves, leaf)
	}
	return f
}

// mixed are the leaves of the mixedFrame: no name is its place, and one leaf is blank.
var mixed = []int{5, 33, 0, 4, 64, 1}

func mixedFrame() era.Frame { return frameOf(mixed...) }

func made(t *testing.T, b *book.Book, f era.Frame, me int, s keys.Secrets) *era.Era {
	t.Helper()
	e, err := era.Make(b, f, me, nil, s)
	if err != api.OK {
		t.Fatalf("Make: %d", err)
	}
	return e
}

// mixedEra is the era of a name in the mixedFrame.
func mixedEra(t *testing.T, me int) *era.Era {
	t.Helper()
	return made(t, nil, mixedFrame(), me, secrets(60))
}

// protect says a text, which is to be taken.
func protect(t *testing.T, b *book.Book, e *era.Era, said string) api.Note {
	t.Helper()
	n, err := chat.Protect(b, e, said)
	if err != api.OK {
		t.Fatalf("Protect by %d, with %d Sent: %d", e.Me, e.Sent, err)
	}
	return n
}

// someTexts are texts that can be said.
func someTexts() []string {
	list := []string{"", "a", "ab", "\x00", "\xff\x00\xfe", "told to all", strings.Repeat("\x00", 64)}
	for _, n := range []int{15, 16, 17, 31, 32, 33, 1007, 1008, 1009, 1023, 1024} {
		list = append(list, strings.Repeat("x", n-1)+"y")
	}
	return list
}

// What is kept, held against what is to be.

// wantEra demands that two eras are alike.
func wantEra(t *testing.T, what string, got, want *era.Era) {
	t.Helper()
	if want.Pack() == "" {
		t.Fatalf("%s: an era that can't be held against another one", what)
	}
	if got.Pack() != want.Pack() {
		t.Errorf("%s: the era isn't as it should be (Sent %d, should be %d)", what, got.Sent, want.Sent)
	}
}

// wantUsed demands that an era has changed by one key alone, that which is gone in the row at a place; and by so many more Sent.
func wantUsed(t *testing.T, what string, before, e *era.Era, place, gen, sent int) {
	t.Helper()
	want := before.Copy()
	want.Apps[place].Take(nil, gen)
	want.Sent += sent
	wantEra(t, what, e, want)
}

// wantFacts demands that the book has these facts and no other: noted once more, they are no more.
func wantFacts(t *testing.T, what string, b *book.Book, facts []api.Fact) {
	t.Helper()
	before := b.Len()
	want := book.New()
	for _, f := range facts {
		b.Note(f)
		want.Note(f)
	}
	if before != want.Len() || b.Len() != before {
		t.Errorf("%s: the book has %d facts, want %d; it lacks %d of them", what, before, want.Len(), b.Len()-before)
	}
}

// namesOf are all names of notes in an epoch that there can be.
func namesOf(epoch api.Hash) []string {
	var list []string
	for author := 1; author <= 64; author++ {
		for gen := range 256 {
			list = append(list, nameOf(epoch, author, gen))
		}
	}
	return list
}

// wantNames demands that of all names of notes in an epoch just these are names, of these keys.
func wantNames(t *testing.T, what string, b *book.Book, epoch api.Hash, want map[string]api.Hash) {
	t.Helper()
	all := namesOf(epoch)
	for _, name := range all {
		h, ok := want[name]
		if got, named := b.Named(name); got != h || named != ok {
			t.Errorf("%s: the name %q names %x, %t, want %x, %t", what, name, got, named, h, ok)
		}
	}
	for name := range want {
		if !slices.Contains(all, name) {
			t.Errorf("%s: no name of a note: %q", what, name)
		}
	}
}
