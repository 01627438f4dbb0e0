package keys_test

import (
	"crypto/hmac"
	"crypto/sha256"
	"encoding/binary"
	"math"
	"math/rand"
	"slices"
	"strings"
	"testing"

	"bevy/api"
	"bevy/book"
	"bevy/keys"
	"bevy/ppr"
	"bevy/sha"
)

func text(h api.Hash) string { return string(h[:]) }

// someDigests are digests of which some are near to others.
func someDigests() []api.Hash {
	return []api.Hash{{}, {31: 1}, {0: 0x80}, {0: 1}, sha.Sum("k"), sha.Sum("l")}
}

// someTexts are texts of many lengths.
func someTexts() []string {
	return []string{"", "a", "core", "\x00", "\xff\x00\xfe", strings.Repeat("long ", 40), strings.Repeat("\x00", 97), strings.Repeat("longer ", 20000)}
}

// The chapter's words, told once more by the standard library alone.

func digest(parts ...string) api.Hash {
	return sha256.Sum256([]byte(strings.Join(parts, "")))
}

func code(key api.Hash, parts ...string) api.Hash {
	c := hmac.New(sha256.New, key[:])
	c.Write([]byte(strings.Join(parts, "")))
	return api.Hash(c.Sum(nil))
}

func derived(key api.Hash, label, context string) api.Hash {
	return code(key, string(binary.BigEndian.AppendUint32(nil, uint32(len(label)))), label, context)
}

// number is a number as layer 1 writes it.
func number(n int) string {
	switch {
	case n < 1<<6:
		return string([]byte{byte(n)})
	case n < 1<<14:
		return string(binary.BigEndian.AppendUint16(nil, uint16(n|1<<14)))
	case n < 1<<30:
		return string(binary.BigEndian.AppendUint32(nil, uint32(n|2<<30)))
	}
	return string(binary.BigEndian.AppendUint64(nil, uint64(n)|3<<62))
}

func secretsOf(joiner api.Hash, context string) keys.Secrets {
	epoch := derived(joiner, "epoch", context)
	return keys.Secrets{
		Joiner:  joiner,
		Welcome: derived(joiner, "welcome", ""),
		Epoch:   epoch,
		Init:    derived(epoch, "init", ""),
		Confirm: derived(epoch, "confirm", ""),
		Apps:    derived(epoch, "apps", ""),
		Export:  derived(epoch, "export", ""),
	}
}

// factsOf are those that the secrets' making notes.
func factsOf(s keys.Secrets) []api.Fact {
	return []api.Fact{
		fact(s.Joiner, s.Welcome), fact(s.Joiner, s.Epoch),
		fact(s.Epoch, s.Init), fact(s.Epoch, s.Confirm), fact(s.Epoch, s.Apps), fact(s.Epoch, s.Export),
	}
}

func fact(in, out api.Hash) api.Fact {
	return api.Fact{Ins: []api.Hash{in}, Outs: []api.Hash{out}}
}

// listed are all secrets, in the order in which their type has them.
func listed(s keys.Secrets) [7]api.Hash {
	return [7]api.Hash{s.Joiner, s.Welcome, s.Epoch, s.Init, s.Confirm, s.Apps, s.Export}
}

// wantFacts demands that the book has these facts and no other: noted once more, they are no more.
func wantFacts(t *testing.T, b *book.Book, facts ...api.Fact) {
	t.Helper()
	if b.Len() != len(facts) {
		t.Errorf("the book has %d facts, want %d", b.Len(), len(facts))
	}
	before := b.Len()
	for _, f := range facts {
		b.Note(f)
		if b.Len() != before {
			t.Errorf("the book hasn't the fact %x", f)
			before = b.Len()
		}
	}
}

// wantFollows demands that these follow of one secret, and no other.
func wantFollows(t *testing.T, b *book.Book, from api.Hash, want ...api.Hash) {
	t.Helper()
	slices.SortFunc(want, sha.Cmp)
	if got := b.Follows(from); !slices.Equal(got, want) {
		t.Errorf("of %x follows %x, want %x", from, got, want)
	}
}

// full is a book that takes no fact more.
func full(t *testing.T) *book.Book {
	t.Helper()
	b := book.New()
	var h api.Hash
	for i := range api.MaxBook {
		binary.BigEndian.PutUint32(h[:], uint32(i))
		b.Note(fact(h, h))
	}
	if b.Len() != api.MaxBook {
		t.Fatalf("the book has %d facts", b.Len())
	}
	return b
}

// The chapter's example.

func TestExample(t *testing.T) {
	if got := keys.Context(api.Hash{}, 0, api.Hash{}, api.Hash{}); got != strings.Repeat("\x00", 97) {
		t.Errorf("Context = %x", got)
	}
}

// Promise 11.1: Said, Context, Make.

func TestSaid(t *testing.T) {
	for _, before := range someDigests() {
		for _, core := range someTexts() {
			want := digest("said", text(before), core)
			if got := keys.Said(before, core); got != want {
				t.Errorf("Said(%x, %d bytes) = %x, want %x", before, len(core), got, want)
			}
		}
	}
}

func TestSaidTellsWhatWasSaidAheadAndInWhichOrder(t *testing.T) {
	var none api.Hash
	one, other := keys.Said(keys.Said(none, "a"), "b"), keys.Said(keys.Said(none, "b"), "a")
	seen := map[api.Hash]bool{none: true}
	for _, h := range []api.Hash{one, other, keys.Said(none, "ab"), keys.Said(none, "a"), keys.Said(none, ""), keys.Said(sha.Sum("k"), "a")} {
		if seen[h] {
			t.Errorf("two rows of cores have %x", h)
		}
		seen[h] = true
	}
}

func TestContext(t *testing.T) {
	parent, tree, said := sha.Sum("parent"), sha.Sum("tree"), sha.Sum("said")
	sizes := map[int]int{0: 97, 63: 97, 64: 98, 1<<14 - 1: 98, 1 << 14: 100, 1<<30 - 1: 100, 1 << 30: 104, api.MaxNum: 104}
	for _, depth := range []int{0, 1, 62, 63, 64, 65, 255, 256, 1<<14 - 1, 1 << 14, 1<<30 - 1, 1 << 30, 1 << 32, api.MaxNum - 1, api.MaxNum} {
		got := keys.Context(parent, depth, tree, said)
		if want := text(parent) + number(depth) + text(tree) + text(said); got != want {
			t.Errorf("Context at the depth %d = %x, want %x", depth, got, want)
		}
		if size, ok := sizes[depth]; ok && len(got) != size {
			t.Errorf("Context at the depth %d has %d bytes, want %d", depth, len(got), size)
		}
	}
	for _, h := range someDigests() {
		for i, got := range []string{keys.Context(h, 7, tree, said), keys.Context(parent, 7, h, said), keys.Context(parent, 7, tree, h)} {
			at := []int{0, 33, 65}[i]
			want := text(parent) + "\x07" + text(tree) + text(said)
			want = want[:at] + text(h) + want[at+32:]
			if got != want {
				t.Errorf("Context with %x at %d = %x, want %x", h, at, got, want)
			}
		}
	}
}

func TestContextOfNoDepth(t *testing.T) {
	h := sha.Sum("h")
	for _, depth := range []int{-1, -2, -64, math.MinInt32, math.MinInt, math.MinInt + 1, api.MaxNum + 1, api.MaxNum + 2, math.MaxInt} {
		if got := keys.Context(h, depth, h, h); got != "" {
			t.Errorf("Context at the depth %d = %x", depth, got)
		}
	}
}

func TestMake(t *testing.T) {
	for _, joiner := range someDigests() {
		for _, context := range someTexts() {
			want := secretsOf(joiner, context)
			b := book.New()
			if got := keys.Make(b, joiner, context); got != want {
				t.Errorf("Make(%x, %d bytes) = %x, want %x", joiner, len(context), got, want)
			}
			wantFacts(t, b, factsOf(want)...)
			if got := keys.Make(nil, joiner, context); got != want {
				t.Errorf("Make without a book = %x, want %x", got, want)
			}
		}
	}
}

func TestMakeAgainNotesNothingMore(t *testing.T) {
	b := book.New()
	first := keys.Make(b, sha.Sum("j"), "context")
	if again := keys.Make(b, sha.Sum("j"), "context"); again != first {
		t.Errorf("made again the secrets are %x, not %x", again, first)
	}
	wantFacts(t, b, factsOf(first)...)
}

func TestMakeBindsTheContextToAllButTheWelcome(t *testing.T) {
	one, other := listed(keys.Make(nil, sha.Sum("j"), "one")), listed(keys.Make(nil, sha.Sum("j"), "other"))
	for i := range one {
		if alike := one[i] == other[i]; alike != (i < 2) {
			t.Errorf("the secret %d is alike in two contexts: %t", i, alike)
		}
	}
	one, other = listed(keys.Make(nil, sha.Sum("j"), "one")), listed(keys.Make(nil, sha.Sum("k"), "one"))
	for i := range one {
		if one[i] == other[i] {
			t.Errorf("the secret %d is alike of two joiners", i)
		}
	}
}

// Promise 11.2: App, Tag, Spot.

func TestApp(t *testing.T) {
	for _, apps := range someDigests() {
		seen := map[api.Hash]int{}
		for place := range api.MaxName {
			want := derived(apps, "app", number(place))
			b := book.New()
			got := keys.App(b, apps, place)
			if got != want {
				t.Errorf("App(%x, %d) = %x, want %x", apps, place, got, want)
			}
			wantFacts(t, b, fact(apps, want))
			if got := keys.App(nil, apps, place); got != want {
				t.Errorf("App without a book = %x, want %x", got, want)
			}
			if other, ok := seen[got]; ok {
				t.Errorf("the places %d and %d have one row", other, place)
			}
			seen[got] = place
		}
	}
}

func TestAppOfNoPlace(t *testing.T) {
	b := book.New()
	for _, place := range []int{-1, -2, -63, -64, math.MinInt32, math.MinInt, 64, 65, 127, 128, 1 << 14, 1 << 32, api.MaxNum, api.MaxNum + 1, math.MaxInt} {
		if got := keys.App(b, sha.Sum("apps"), place); got != (api.Hash{}) {
			t.Errorf("App of the place %d = %x", place, got)
		}
		if got := keys.App(nil, sha.Sum("apps"), place); got != (api.Hash{}) {
			t.Errorf("App of the place %d without a book = %x", place, got)
		}
	}
	wantFacts(t, b)
}

func TestTag(t *testing.T) {
	seen := map[api.Hash]bool{}
	for _, confirm := range someDigests() {
		for _, said := range someDigests() {
			got := keys.Tag(confirm, said)
			if want := code(confirm, "tag", text(said)); got != want {
				t.Errorf("Tag(%x, %x) = %x, want %x", confirm, said, got, want)
			}
			if seen[got] {
				t.Errorf("Tag(%x, %x) is another one's, too", confirm, said)
			}
			seen[got] = true
		}
	}
}

func TestSpot(t *testing.T) {
	var high, low int
	cores := someTexts()
	for i := range 500 {
		cores = append(cores, strings.Repeat("x", i)+number(i))
	}
	for _, core := range cores {
		h := digest("spot", core)
		got := keys.Spot(core)
		if want := int(binary.BigEndian.Uint32(h[:4])); got != want {
			t.Errorf("Spot of %d bytes = %x, want %x", len(core), got, want)
		}
		if got < 0 || got > math.MaxUint32 {
			t.Errorf("Spot of %d bytes = %d", len(core), got)
		}
		if h[0] >= 0x80 {
			high++
		} else {
			low++
		}
	}
	if high == 0 || low == 0 {
		t.Errorf("of %d spots %d are in the upper half", high+low, high)
	}
}

func TestSpotIsAPlaceOfARow(t *testing.T) {
	row, err := ppr.New(sha.Sum("init"), api.MaxBits)
	if err != api.OK {
		t.Fatalf("New: %d", err)
	}
	for _, core := range someTexts() {
		if _, err := row.Take(nil, keys.Spot(core)); err != api.OK {
			t.Errorf("Take at the spot of %d bytes: %d", len(core), err)
		}
		if !row.Gone(keys.Spot(core)) {
			t.Errorf("the spot of %d bytes isn't gone", len(core))
		}
	}
}

// Promise 11.3: what holds.

func TestWhoKnowsWhat(t *testing.T) {
	for _, joiner := range someDigests() {
		b := book.New()
		s := keys.Make(b, joiner, "context")
		wantFollows(t, b, s.Joiner, s.Joiner, s.Welcome, s.Epoch, s.Init, s.Confirm, s.Apps, s.Export)
		wantFollows(t, b, s.Epoch, s.Epoch, s.Init, s.Confirm, s.Apps, s.Export)
		for _, h := range []api.Hash{s.Welcome, s.Init, s.Confirm, s.Apps, s.Export} {
			wantFollows(t, b, h, h)
		}
		others := []api.Hash{s.Welcome, s.Confirm, s.Apps, s.Export}
		if b.Knows(s.Init, others...) || b.Knows(s.Epoch, others...) || b.Knows(s.Joiner, others...) {
			t.Errorf("all but Init together make more")
		}
	}
}

func TestWhoKnowsWhatOfManyEpochs(t *testing.T) {
	b := book.New()
	r := rand.New(rand.NewSource(11))
	var epochs []keys.Secrets
	for i := range 40 {
		var joiner api.Hash
		r.Read(joiner[:])
		if i%4 == 3 { // the joiner of the one ahead, in another context
			joiner = epochs[i-1].Joiner
		}
		epochs = append(epochs, keys.Make(b, joiner, number(i)))
	}
	for i, s := range epochs {
		for j, other := range epochs {
			if i == j {
				continue
			}
			theirs := listed(other)
			for at, h := range theirs {
				of := s.Joiner == other.Joiner
				if got := b.Knows(h, s.Joiner); got != of {
					t.Errorf("who knows the joiner %d knows the secret %d of the epoch %d: %t", i, at, j, got)
				}
				if at > 1 && b.Knows(h, s.Epoch, s.Welcome) {
					t.Errorf("who knows the epoch %d knows the secret %d of the epoch %d", i, at, j)
				}
			}
		}
	}
}

func TestWhoKnowsTheRowsOfLeaves(t *testing.T) {
	b := book.New()
	s := keys.Make(b, sha.Sum("j"), "context")
	apps := []api.Hash{s.Apps}
	for place := range api.MaxName {
		apps = append(apps, keys.App(b, s.Apps, place))
	}
	for _, h := range apps[1:] {
		if !b.Knows(h, s.Joiner) || !b.Knows(h, s.Epoch) || b.Knows(h, s.Init, s.Confirm, s.Export, s.Welcome) {
			t.Errorf("%x is known to others", h)
		}
		wantFollows(t, b, h, h)
	}
	wantFollows(t, b, s.Apps, apps...)
}

func TestAFullBookStopsNothing(t *testing.T) {
	if testing.Short() {
		t.Skip("it fills a book")
	}
	b, j := full(t), sha.Sum("j")
	s := keys.Make(b, j, "context")
	if s != secretsOf(j, "context") || keys.App(b, s.Apps, 3) != derived(s.Apps, "app", "\x03") {
		t.Errorf("with a full book secrets come out otherwise")
	}
	if b.Len() != api.MaxBook || b.Knows(s.Welcome, j) || b.Knows(s.Export, s.Epoch) {
		t.Errorf("a full book took a fact more")
	}
}

func FuzzSecrets(f *testing.F) {
	f.Add("", "", 0)
	f.Add("joiner", "context", 63)
	f.Add("joiner", strings.Repeat("context", 300), 64)
	f.Add("x", "\x00", -1)
	f.Add("x", "\xff", api.MaxNum)
	f.Add("x", "", math.MaxInt)
	f.Fuzz(func(t *testing.T, of, about string, n int) {
		h, b := sha.Sum(of), book.New()
		s := keys.Make(b, h, about)
		if s != secretsOf(h, about) {
			t.Errorf("Make(%x, %q) = %x", h, about, s)
		}
		app, want := keys.App(b, s.Apps, n), api.Hash{}
		if n >= 0 && n < 64 {
			want = derived(s.Apps, "app", number(n))
		}
		if app != want || b.Knows(want, s.Apps) != (n >= 0 && n < 64) {
			t.Errorf("App(%d) = %x, want %x", n, app, want)
		}
		context := ""
		if n >= 0 && n <= api.MaxNum {
			context = text(h) + number(n) + text(s.Init) + text(s.Apps)
		}
		if got := keys.Context(h, n, s.Init, s.Apps); got != context {
			t.Errorf("Context at the depth %d = %x, want %x", n, got, context)
		}
		d := digest("spot", about)
		if keys.Said(h, about) != digest("said", text(h), about) || keys.Tag(h, s.Apps) != code(h, "tag", text(s.Apps)) || keys.Spot(about) != int(binary.BigEndian.Uint32(d[:])) {
			t.Errorf("Said, Tag or Spot of %x and %q is another one", h, about)
		}
	})
}
