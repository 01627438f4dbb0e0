package prim_test

import (
	"crypto/hmac"
	"crypto/sha256"
	"encoding/binary"
	"fmt"
	"math/rand"
	"slices"
	"strings"
	"testing"

	"bevy/api"
	"bevy/book"
	"bevy/mac"
	"bevy/prim"
	"bevy/sha"
)

// bytesOf is a text of n bytes, of which near ones differ.
func bytesOf(n int) string {
	b := make([]byte, n)
	for i := range b {
		b[i] = byte(i*7 + i>>8 + 3)
	}
	return string(b)
}

func text(h api.Hash) string { return string(h[:]) }

// changed is the text with one bit of a byte turned.
func changed(s string, at, bit int) string {
	b := []byte(s)
	b[at] ^= 1 << bit
	return string(b)
}

// someKeys are keys of which some are near to others.
func someKeys() []api.Hash {
	return []api.Hash{{}, {31: 1}, {0: 0x80}, sha.Sum("k"), sha.Sum("l"), prim.Mark(sha.Sum("k"))}
}

// The chapter's words, told once more by the standard library alone.

func digest(parts ...string) api.Hash {
	return sha256.Sum256([]byte(strings.Join(parts, "")))
}

func code(key, text string) api.Hash {
	c := hmac.New(sha256.New, []byte(key))
	c.Write([]byte(text))
	return api.Hash(c.Sum(nil))
}

func derived(key api.Hash, label, context string) api.Hash {
	return code(text(key), string(binary.BigEndian.AppendUint32(nil, uint32(len(label))))+label+context)
}

// sealOf is a seal as the chapter tells it.
func sealOf(key api.Hash, about, of string) string {
	under := derived(key, "stream", "")
	var out []byte
	for i := range len(of) {
		row := code(text(under), string(binary.BigEndian.AppendUint32(nil, uint32(i/32))))
		out = append(out, of[i]^row[i%32])
	}
	tag := derived(derived(key, "tag", ""), about, string(out))
	return string(out) + string(tag[:16])
}

// wantFacts demands that the book has these facts and no other: noted once more, they are no more.
func wantFacts(t *testing.T, b *book.Book, facts ...api.Fact) {
	t.Helper()
	if b.Len() != len(facts) {
		t.Errorf("the book has %d facts, want %d", b.Len(), len(facts))
	}
	before := b.Len()
	for _, f := range facts {
		b.Note(f)
		if b.Len() != before {
			t.Errorf("the book hasn't the fact %x", f)
			before = b.Len()
		}
	}
}

func fact(in api.Hash, outs ...api.Hash) api.Fact {
	return api.Fact{Ins: []api.Hash{in}, Outs: outs}
}

// full is a book that takes no fact more.
func full(t *testing.T) *book.Book {
	t.Helper()
	b := book.New()
	var h api.Hash
	for i := range api.MaxBook {
		binary.BigEndian.PutUint32(h[:], uint32(i))
		b.Note(fact(h, h))
	}
	if b.Len() != api.MaxBook {
		t.Fatalf("the book has %d facts", b.Len())
	}
	return b
}

// The chapter's example.

func TestExample(t *testing.T) {
	k := sha.Sum("k")
	if s := prim.Seal(nil, k, "", "ab"); len(s) != 18 {
		t.Errorf("Seal has %d bytes", len(s))
	}
	if w := prim.Wrap(nil, prim.Pub(nil, k), sha.Sum("once"), "", "ab"); len(w) != 50 {
		t.Errorf("Wrap has %d bytes", len(w))
	}
}

// Promise 5.1: Derive, Mix, Pub, Mark, Verify.

func TestDeriveAnswersTheLayerBelow(t *testing.T) {
	for _, k := range someKeys() {
		for _, label := range []string{"", "a", "stream", "tag", bytesOf(300)} {
			for _, context := range []string{"", "b", bytesOf(70000)} {
				want := mac.Derive(k, label, context)
				b := book.New()
				if got := prim.Derive(b, k, label, context); got != want {
					t.Errorf("Derive(%x, %q, %d bytes) = %x, want %x", k, label, len(context), got, want)
				}
				wantFacts(t, b, fact(k, want))
				if got := prim.Derive(nil, k, label, context); got != want {
					t.Errorf("Derive without a book = %x, want %x", got, want)
				}
			}
		}
	}
}

func TestDeriveNotesThatTheKeyMakesIt(t *testing.T) {
	b, k := book.New(), sha.Sum("k")
	made := prim.Derive(b, k, "a", "b")
	if !b.Knows(made, k) || b.Knows(k, made) || b.Knows(made) {
		t.Errorf("the book knows otherwise")
	}
	prim.Derive(b, k, "a", "b")
	other := prim.Derive(b, k, "a", "c")
	wantFacts(t, b, fact(k, made), fact(k, other))
}

func TestMixAnswersTheLayerBelow(t *testing.T) {
	for _, salt := range someKeys() {
		for _, key := range someKeys() {
			want := mac.Mix(salt, key)
			b := book.New()
			if got := prim.Mix(b, salt, key); got != want {
				t.Errorf("Mix(%x, %x) = %x, want %x", salt, key, got, want)
			}
			wantFacts(t, b, api.Fact{Ins: []api.Hash{salt, key}, Outs: []api.Hash{want}})
			if got := prim.Mix(nil, salt, key); got != want {
				t.Errorf("Mix without a book = %x, want %x", got, want)
			}
		}
	}
}

func TestMixNotesThatBothAreNeeded(t *testing.T) {
	b, salt, key := book.New(), sha.Sum("salt"), sha.Sum("key")
	made := prim.Mix(b, salt, key)
	if b.Knows(made, salt) || b.Knows(made, key) || !b.Knows(made, salt, key) || !b.Knows(made, key, salt) {
		t.Errorf("the book knows otherwise")
	}
	if b.Knows(salt, made) || b.Knows(key, made, salt) {
		t.Errorf("what is made of two tells one of them")
	}
}

func TestPublicKeyMarkAndCheckKey(t *testing.T) {
	for _, k := range someKeys() {
		pub := digest("pub", text(k))
		b := book.New()
		if got := prim.Pub(b, k); got != pub {
			t.Errorf("Pub(%x) = %x, want %x", k, got, pub)
		}
		if got := prim.Pub(nil, k); got != pub {
			t.Errorf("Pub(%x) without a book = %x, want %x", k, got, pub)
		}
		if got, want := prim.Mark(k), digest("mark", text(k)); got != want {
			t.Errorf("Mark(%x) = %x, want %x", k, got, want)
		}
		if got, want := prim.Verify(k), digest("ver", text(k)); got != want {
			t.Errorf("Verify(%x) = %x, want %x", k, got, want)
		}
		wantFacts(t, b, fact(k, digest("mark", text(pub))))
	}
}

func TestPubNotesTheMarkAlone(t *testing.T) {
	b, k := book.New(), sha.Sum("k")
	pub := prim.Pub(b, k)
	if !b.Knows(prim.Mark(pub), k) {
		t.Errorf("who knows the secret key doesn't know the mark")
	}
	if b.Knows(prim.Mark(pub), pub) || b.Knows(pub, k) || b.Knows(k, pub) || b.Knows(k, prim.Mark(pub)) {
		t.Errorf("the book knows too much")
	}
	prim.Pub(b, k)
	wantFacts(t, b, fact(k, prim.Mark(pub)))
}

// Promise 5.2: Seal and Open.

func TestSealIsThatOfTheChapter(t *testing.T) {
	for _, k := range someKeys() {
		for _, n := range []int{0, 1, 2, 31, 32, 33, 64, 65, 1000} {
			for _, about := range []string{"", "a", "about", bytesOf(100)} {
				if got, want := prim.Seal(nil, k, about, bytesOf(n)), sealOf(k, about, bytesOf(n)); got != want {
					t.Errorf("a seal of %d bytes about %q = %x, want %x", n, about, got, want)
				}
			}
		}
	}
}

func TestSealAtItsEdges(t *testing.T) {
	k, secret := sha.Sum("k"), sha.Sum("s")
	for _, n := range []int{0, 1, 65535, 65536} {
		b := book.New()
		sealed := prim.Seal(b, k, "about", bytesOf(n), secret)
		if len(sealed) != n+16 {
			t.Errorf("a seal of %d bytes has %d", n, len(sealed))
		}
		wantFacts(t, b, fact(k, secret))
		if got, e := prim.Open(k, "about", sealed); got != bytesOf(n) || e != api.OK {
			t.Errorf("Open of a seal of %d bytes = %d bytes, %d", n, len(got), e)
		}
	}
	whole := prim.Seal(nil, k, "about", bytesOf(65536))
	if whole != sealOf(k, "about", bytesOf(65536)) {
		t.Errorf("the seal of 65536 bytes is another one")
	}
	for _, n := range []int{65537, 65538, 1 << 17, 1 << 20} {
		b := book.New()
		if got := prim.Seal(b, k, "about", bytesOf(n), secret); got != "" {
			t.Errorf("a seal of %d bytes has %d", n, len(got))
		}
		if got := prim.Seal(b, k, "about", bytesOf(n)); got != "" {
			t.Errorf("a seal of %d bytes without secrets has %d", n, len(got))
		}
		wantFacts(t, b)
	}
}

func TestSealAboutMuch(t *testing.T) {
	k := sha.Sum("k")
	for _, n := range []int{65535, 65536, 65537, 1 << 20} {
		sealed := prim.Seal(nil, k, bytesOf(n), "ab")
		if sealed != sealOf(k, bytesOf(n), "ab") {
			t.Errorf("a seal about %d bytes is another one", n)
		}
		if got, e := prim.Open(k, bytesOf(n), sealed); got != "ab" || e != api.OK {
			t.Errorf("Open about %d bytes = %q, %d", n, got, e)
		}
	}
}

func TestSealNotesItsSecrets(t *testing.T) {
	k, x, y := sha.Sum("k"), sha.Sum("x"), sha.Sum("y")
	b := book.New()
	prim.Seal(b, k, "about", "text")
	prim.Seal(b, k, "about", "text", []api.Hash{}...)
	wantFacts(t, b)
	plain := prim.Seal(nil, k, "about", "text")
	if got := prim.Seal(b, k, "about", "text", x, y); got != plain {
		t.Errorf("with secrets the seal is another one: %x, want %x", got, plain)
	}
	wantFacts(t, b, fact(k, x, y))
	prim.Seal(b, k, "other", "texts", x, y)
	wantFacts(t, b, fact(k, x, y))
	prim.Seal(b, k, "about", "text", y, x)
	prim.Seal(b, k, "about", "", x)
	prim.Seal(b, k, "about", "text", x, x)
	wantFacts(t, b, fact(k, x, y), fact(k, y, x), fact(k, x), fact(k, x, x))
	if !b.Knows(x, k) || !b.Knows(y, k) || b.Knows(k, x, y) || b.Knows(x, y) {
		t.Errorf("the book knows otherwise")
	}
	if got := prim.Seal(nil, k, "about", "text", x); got != plain {
		t.Errorf("without a book the seal is another one")
	}
}

func TestSealLeavesItsSecrets(t *testing.T) {
	k, x, y, z := sha.Sum("k"), sha.Sum("x"), sha.Sum("y"), sha.Sum("z")
	list := []api.Hash{x, y, z}
	b := book.New()
	prim.Seal(b, k, "", "", list[:2]...)
	prim.Wrap(b, k, z, "", "", list[:2]...)
	if !slices.Equal(list, []api.Hash{x, y, z}) {
		t.Errorf("the secrets were changed: %x", list)
	}
	list[0] = z
	if !b.Knows(x, k) || b.Knows(z, k) {
		t.Errorf("the book's secrets are the caller's")
	}
}

func TestSealedBytesTellApart(t *testing.T) {
	first := prim.Seal(nil, sha.Sum("k"), "about", bytesOf(40))
	other := prim.Seal(nil, sha.Sum("l"), "about", bytesOf(40))
	if first == other || first[:40] == other[:40] || first[40:] == other[40:] {
		t.Errorf("the key doesn't count")
	}
	if again := prim.Seal(nil, sha.Sum("k"), "else", bytesOf(40)); again[:40] != first[:40] || again[40:] == first[40:] {
		t.Errorf("what it is about counts elsewhere than in the tag alone")
	}
	if short := prim.Seal(nil, sha.Sum("k"), "about", bytesOf(39)); short[:39] != first[:39] {
		t.Errorf("a shorter text's bytes don't begin the longer one's")
	}
}

func TestOpenOfShortSeals(t *testing.T) {
	k := sha.Sum("k")
	sealed := prim.Seal(nil, k, "about", "")
	for n := range 16 {
		if got, e := prim.Open(k, "about", sealed[:n]); got != "" || e != api.ErrShort {
			t.Errorf("Open of %d bytes = %q, %d", n, got, e)
		}
	}
	if got, e := prim.Open(k, "about", sealed); got != "" || e != api.OK {
		t.Errorf("Open of 16 bytes = %q, %d", got, e)
	}
	if got, e := prim.Open(k, "about", strings.Repeat("\x00", 16)); got != "" || e != api.ErrSeal {
		t.Errorf("Open of 16 noughts = %q, %d", got, e)
	}
	if got, e := prim.Open(k, "about", prim.Seal(nil, k, "about", "ab")[1:]); got != "" || e != api.ErrSeal {
		t.Errorf("Open without the first byte = %q, %d", got, e)
	}
}

func TestOpenOfLongSeals(t *testing.T) {
	k := sha.Sum("k")
	for _, n := range []int{65537, 65538, 1 << 17} {
		// As it would be, were there no bound: still it is too long.
		for _, sealed := range []string{sealOf(k, "about", bytesOf(n)), bytesOf(n + 16)} {
			if got, e := prim.Open(k, "about", sealed); got != "" || e != api.ErrLong {
				t.Errorf("Open of %d bytes = %d bytes, %d", len(sealed), len(got), e)
			}
		}
	}
	if got, e := prim.Open(k, "about", bytesOf(65552)); got != "" || e != api.ErrSeal {
		t.Errorf("Open of 65552 bytes that are no seal = %d bytes, %d", len(got), e)
	}
}

func TestOpenByAnotherKeyOrAboutAnotherText(t *testing.T) {
	for _, n := range []int{0, 1, 40} {
		k := sha.Sum("k")
		sealed := prim.Seal(nil, k, "about", bytesOf(n))
		for at := range k {
			other := k
			other[at] ^= 1
			if got, e := prim.Open(other, "about", sealed); got != "" || e != api.ErrSeal {
				t.Errorf("Open by a key with another byte %d = %q, %d", at, got, e)
			}
		}
		for _, about := range []string{"", "abou", "abouT", "about ", "About", "\x00about"} {
			if got, e := prim.Open(k, about, sealed); got != "" || e != api.ErrSeal {
				t.Errorf("Open about %q = %q, %d", about, got, e)
			}
		}
	}
}

func TestOpenPartsWhatItIsAboutFromTheText(t *testing.T) {
	k := sha.Sum("k")
	sealed := prim.Seal(nil, k, "about", bytesOf(20))
	for i := 1; i <= 20; i++ {
		if got, e := prim.Open(k, "about"+sealed[:i], sealed[i:]); got != "" || e != api.ErrSeal {
			t.Errorf("with %d bytes of the seal in what it is about: %q, %d", i, got, e)
		}
	}
	if got, e := prim.Open(k, "abou", "t"+sealed); got != "" || e != api.ErrSeal {
		t.Errorf("with a byte of what it is about in the seal: %q, %d", got, e)
	}
}

func TestOpenOfChangedSeals(t *testing.T) {
	k := sha.Sum("k")
	for _, n := range []int{0, 1, 33} {
		sealed := prim.Seal(nil, k, "about", bytesOf(n))
		for at := range len(sealed) {
			for bit := range 8 {
				if got, e := prim.Open(k, "about", changed(sealed, at, bit)); got != "" || e != api.ErrSeal {
					t.Errorf("with the bit %d of byte %d of %d changed: %q, %d", bit, at, len(sealed), got, e)
				}
			}
		}
		for i := 16; i < len(sealed); i++ {
			if got, e := prim.Open(k, "about", sealed[:i]); got != "" || e != api.ErrSeal {
				t.Errorf("the first %d bytes of %d: %q, %d", i, len(sealed), got, e)
			}
		}
		if got, e := prim.Open(k, "about", sealed+"\x00"); got != "" || e != api.ErrSeal {
			t.Errorf("with a byte more: %q, %d", got, e)
		}
	}
}

// Promise 5.3: Wrap and Unwrap.

func TestWrapIsOnceAndASeal(t *testing.T) {
	for _, pub := range someKeys() {
		for _, once := range someKeys() {
			shared := digest("kem", text(pub), text(once))
			for _, n := range []int{0, 2, 33} {
				got := prim.Wrap(nil, pub, once, "about", bytesOf(n))
				if want := text(once) + sealOf(shared, "about", bytesOf(n)); got != want {
					t.Errorf("Wrap of %d bytes = %x, want %x", n, got, want)
				}
			}
		}
	}
}

func TestWrapNotes(t *testing.T) {
	k, once, x, y := sha.Sum("k"), sha.Sum("once"), sha.Sum("x"), sha.Sum("y")
	pub := prim.Pub(nil, k)
	shared := sha.Sum("kem", text(pub), text(once))
	b := book.New()
	plain := prim.Wrap(b, pub, once, "about", "text")
	wantFacts(t, b, fact(prim.Mark(pub), shared), fact(once, shared))
	if got := prim.Wrap(b, pub, once, "about", "text", x, y); got != plain {
		t.Errorf("with secrets the wrap is another one")
	}
	wantFacts(t, b, fact(prim.Mark(pub), shared), fact(once, shared), fact(shared, x, y))
	if got := prim.Wrap(nil, pub, once, "about", "text", x, y); got != plain {
		t.Errorf("without a book the wrap is another one")
	}
	for _, h := range []api.Hash{x, y, shared} {
		if !b.Knows(h, once) || !b.Knows(h, prim.Mark(pub)) || b.Knows(h, pub) || b.Knows(h, k) || b.Knows(h) {
			t.Errorf("the book knows otherwise of %x", h)
		}
	}
	if b.Knows(once, prim.Mark(pub)) || b.Knows(prim.Mark(pub), once, shared, x, y) || b.Knows(shared, x, y) {
		t.Errorf("the book knows too much")
	}
	// With the public key noted, too, the secret key is enough.
	prim.Pub(b, k)
	if !b.Knows(x, k) || !b.Knows(y, k) || b.Knows(k, x, y, shared, once) {
		t.Errorf("the book knows otherwise of the secret key")
	}
}

func TestWrapAtItsEdges(t *testing.T) {
	k, once, x := sha.Sum("k"), sha.Sum("once"), sha.Sum("x")
	pub := prim.Pub(nil, k)
	shared := sha.Sum("kem", text(pub), text(once))
	for _, n := range []int{0, 1, 65535, 65536} {
		b := book.New()
		wrap := prim.Wrap(b, pub, once, "about", bytesOf(n), x)
		if len(wrap) != n+48 {
			t.Errorf("a wrap of %d bytes has %d", n, len(wrap))
		}
		wantFacts(t, b, fact(prim.Mark(pub), shared), fact(once, shared), fact(shared, x))
		if got, e := prim.Unwrap(k, "about", wrap); got != bytesOf(n) || e != api.OK {
			t.Errorf("Unwrap of %d bytes = %d bytes, %d", n, len(got), e)
		}
	}
	// Of a text that is too long there is no wrap; the shared key was made still, but leads to no secret.
	for _, n := range []int{65537, 1 << 17} {
		b := book.New()
		if got := prim.Wrap(b, pub, once, "about", bytesOf(n), x); got != "" {
			t.Errorf("a wrap of %d bytes has %d", n, len(got))
		}
		wantFacts(t, b, fact(prim.Mark(pub), shared), fact(once, shared))
		if b.Knows(x, once, prim.Mark(pub), shared) {
			t.Errorf("what wasn't wrapped is known")
		}
		if got := prim.Wrap(nil, pub, once, "about", bytesOf(n)); got != "" {
			t.Errorf("without a book a wrap of %d bytes has %d", n, len(got))
		}
	}
}

func TestUnwrapOfShortWraps(t *testing.T) {
	k := sha.Sum("k")
	wrap := prim.Wrap(nil, prim.Pub(nil, k), sha.Sum("once"), "about", "")
	for n := range 48 {
		if got, e := prim.Unwrap(k, "about", wrap[:n]); got != "" || e != api.ErrShort {
			t.Errorf("Unwrap of %d bytes = %q, %d", n, got, e)
		}
	}
	if got, e := prim.Unwrap(k, "about", wrap); got != "" || e != api.OK {
		t.Errorf("Unwrap of 48 bytes = %q, %d", got, e)
	}
	if got, e := prim.Unwrap(k, "about", strings.Repeat("\x00", 48)); got != "" || e != api.ErrSeal {
		t.Errorf("Unwrap of 48 noughts = %q, %d", got, e)
	}
}

func TestUnwrapOfLongWraps(t *testing.T) {
	k, once := sha.Sum("k"), sha.Sum("once")
	shared := sha.Sum("kem", text(prim.Pub(nil, k)), text(once))
	for _, wrap := range []string{bytesOf(65585), text(once) + sealOf(shared, "", bytesOf(65537)), bytesOf(1 << 18)} {
		if got, e := prim.Unwrap(k, "", wrap); got != "" || e != api.ErrLong {
			t.Errorf("Unwrap of %d bytes = %d bytes, %d", len(wrap), len(got), e)
		}
	}
	if got, e := prim.Unwrap(k, "", bytesOf(65584)); got != "" || e != api.ErrSeal {
		t.Errorf("Unwrap of 65584 bytes = %d bytes, %d", len(got), e)
	}
}

func TestUnwrapByAnotherKeyOrAboutAnotherText(t *testing.T) {
	k, once := sha.Sum("k"), sha.Sum("once")
	pub := prim.Pub(nil, k)
	wrap := prim.Wrap(nil, pub, once, "about", "text")
	others := []api.Hash{pub, prim.Mark(pub), once, sha.Sum("kem", text(pub), text(once)), {}, prim.Verify(k)}
	for at := range k {
		other := k
		other[at] ^= 0x10
		others = append(others, other)
	}
	for _, other := range others {
		if got, e := prim.Unwrap(other, "about", wrap); got != "" || e != api.ErrSeal {
			t.Errorf("Unwrap by %x = %q, %d", other, got, e)
		}
	}
	for _, about := range []string{"", "abou", "about ", "ABOUT"} {
		if got, e := prim.Unwrap(k, about, wrap); got != "" || e != api.ErrSeal {
			t.Errorf("Unwrap about %q = %q, %d", about, got, e)
		}
	}
}

func TestUnwrapOfChangedWraps(t *testing.T) {
	k := sha.Sum("k")
	wrap := prim.Wrap(nil, prim.Pub(nil, k), sha.Sum("once"), "about", "text")
	for at := range len(wrap) {
		for bit := range 8 {
			if got, e := prim.Unwrap(k, "about", changed(wrap, at, bit)); got != "" || e != api.ErrSeal {
				t.Errorf("with the bit %d of byte %d changed: %q, %d", bit, at, got, e)
			}
		}
	}
	for n := 48; n < len(wrap); n++ {
		if got, e := prim.Unwrap(k, "about", wrap[:n]); got != "" || e != api.ErrSeal {
			t.Errorf("the first %d bytes: %q, %d", n, got, e)
		}
	}
}

// Promise 5.4: Sign and Check.

func TestSignIsACodeUnderTheCheckKey(t *testing.T) {
	for _, k := range someKeys() {
		for _, n := range []int{0, 1, 64, 70000} {
			want := code(text(digest("ver", text(k))), "sign"+bytesOf(n))
			if got := prim.Sign(k, bytesOf(n)); got != want {
				t.Errorf("Sign(%x, %d bytes) = %x, want %x", k, n, got, want)
			}
			if !prim.Check(prim.Verify(k), bytesOf(n), want) {
				t.Errorf("what %x signed doesn't check", k)
			}
		}
	}
}

func TestCheckUnderAnyKeysBytes(t *testing.T) {
	for _, verify := range someKeys() {
		if !prim.Check(verify, "text", code(text(verify), "signtext")) {
			t.Errorf("Check under %x is false", verify)
		}
	}
}

func TestCheckOfOthers(t *testing.T) {
	k := sha.Sum("k")
	sign, verify := prim.Sign(k, "text"), prim.Verify(k)
	for _, other := range []string{"", "tex", "text ", "Text", "signtext", "\x00text"} {
		if prim.Check(verify, other, sign) {
			t.Errorf("the signature of another text is that of %q", other)
		}
	}
	for at := range 32 {
		for bit := range 8 {
			v, s := verify, sign
			v[at] ^= 1 << bit
			s[at] ^= 1 << bit
			if prim.Check(v, "text", sign) || prim.Check(verify, "text", s) {
				t.Errorf("the bit %d of byte %d doesn't count", bit, at)
			}
		}
	}
	for _, other := range []api.Hash{{}, k, prim.Pub(nil, k), prim.Verify(sha.Sum("l"))} {
		if prim.Check(other, "text", sign) {
			t.Errorf("Check under %x is true", other)
		}
	}
	if prim.Check(verify, "text", api.Hash{}) || prim.Check(verify, "text", prim.Sign(sha.Sum("l"), "text")) {
		t.Errorf("what another one signed checks")
	}
}

// Promise 5.5: what holds.

func TestWhatWasMadeComesBack(t *testing.T) {
	r := rand.New(rand.NewSource(5))
	for range 300 {
		var k, once api.Hash
		r.Read(k[:])
		r.Read(once[:])
		about, of := bytesOf(r.Intn(80)), bytesOf(r.Intn(200))
		if got, e := prim.Open(k, about, prim.Seal(nil, k, about, of)); got != of || e != api.OK {
			t.Errorf("a seal opened = %q, %d", got, e)
		}
		if got, e := prim.Unwrap(k, about, prim.Wrap(nil, prim.Pub(nil, k), once, about, of)); got != of || e != api.OK {
			t.Errorf("a wrap unwrapped = %q, %d", got, e)
		}
		if !prim.Check(prim.Verify(k), of, prim.Sign(k, of)) {
			t.Errorf("what was signed doesn't check")
		}
	}
}

func TestWhoKnowsASecretKeyKnowsWhatWasWrapped(t *testing.T) {
	b := book.New()
	wrapped := map[int][]api.Hash{}
	key := func(of int) api.Hash { return sha.Sum(fmt.Sprint("key ", of)) }
	for of := range 8 {
		if of%2 == 0 { // whether the public key is noted ahead of its wraps or behind them
			prim.Pub(b, key(of))
		}
	}
	for i := range 200 {
		of := i * 7 % 8
		secret := sha.Sum(fmt.Sprint("secret ", i))
		further := prim.Derive(b, secret, "further", "")
		prim.Wrap(b, prim.Pub(nil, key(of)), sha.Sum(fmt.Sprint("once ", i)), "", text(secret), secret)
		wrapped[of] = append(wrapped[of], secret, further)
	}
	for of := range 8 {
		prim.Pub(b, key(of))
	}
	for of := range 8 {
		for other := range 8 {
			for _, h := range wrapped[other] {
				if got := b.Knows(h, key(of)); got != (of == other) {
					t.Fatalf("who knows the key %d knows what was wrapped for %d: %t", of, other, got)
				}
			}
		}
		if all := b.Follows(key(of)); len(all) != 2+len(wrapped[of])*3/2 { // the key, its mark, and of each wrap the shared key, the secret and what is made of it
			t.Errorf("of the key %d %d secrets follow", of, len(all))
		}
	}
}

func TestAFullBookStopsNothing(t *testing.T) {
	if testing.Short() {
		t.Skip("it fills a book")
	}
	b, k, once := full(t), sha.Sum("k"), sha.Sum("once")
	if prim.Derive(b, k, "a", "b") != mac.Derive(k, "a", "b") || prim.Mix(b, k, once) != mac.Mix(k, once) || prim.Pub(b, k) != prim.Pub(nil, k) {
		t.Errorf("with a full book keys come out otherwise")
	}
	if prim.Seal(b, k, "a", "b", once) != prim.Seal(nil, k, "a", "b") || prim.Wrap(b, k, once, "a", "b", k) != prim.Wrap(nil, k, once, "a", "b") {
		t.Errorf("with a full book seals come out otherwise")
	}
	if b.Len() != api.MaxBook || b.Knows(mac.Derive(k, "a", "b"), k) {
		t.Errorf("a full book took a fact more")
	}
}

func FuzzSeal(f *testing.F) {
	f.Add("k", "", "")
	f.Add("k", "about", "text")
	f.Add("", bytesOf(100), bytesOf(65))
	f.Fuzz(func(t *testing.T, name, about, of string) {
		k, once := sha.Sum(name), sha.Sum("once", name)
		if len(of) > api.MaxText {
			return
		}
		if got, want := prim.Seal(nil, k, about, of), sealOf(k, about, of); got != want {
			t.Errorf("Seal = %x, want %x", got, want)
		}
		if got, e := prim.Open(k, about, prim.Seal(nil, k, about, of)); got != of || e != api.OK {
			t.Errorf("Open = %q, %d", got, e)
		}
		if got, e := prim.Unwrap(k, about, prim.Wrap(nil, prim.Pub(nil, k), once, about, of)); got != of || e != api.OK {
			t.Errorf("Unwrap = %q, %d", got, e)
		}
	})
}

func FuzzOpen(f *testing.F) {
	f.Add("k", "about", "")
	f.Add("k", "about", prim.Seal(nil, sha.Sum("k"), "about", "text"))
	f.Add("k", "about", prim.Wrap(nil, prim.Pub(nil, sha.Sum("k")), sha.Sum("once"), "about", "text"))
	f.Fuzz(func(t *testing.T, name, about, bytes string) {
		k := sha.Sum(name)
		// A seal is the one seal of its text: what opens is sealed again alike.
		if got, e := prim.Open(k, about, bytes); e == api.OK && prim.Seal(nil, k, about, got) != bytes || e != api.OK && got != "" {
			t.Errorf("Open(%q, %x) = %q, %d", about, bytes, got, e)
		}
		got, e := prim.Unwrap(k, about, bytes)
		if e != api.OK && got != "" {
			t.Errorf("Unwrap(%q, %x) = %q, %d", about, bytes, got, e)
		}
		if e == api.OK && prim.Wrap(nil, prim.Pub(nil, k), api.Hash([]byte(bytes[:32])), about, got) != bytes {
			t.Errorf("Unwrap(%q, %x) = %q, which isn't wrapped again alike", about, bytes, got)
		}
	})
}
