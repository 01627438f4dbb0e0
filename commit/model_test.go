package commit_test

import (
	"crypto/hmac"
	"crypto/sha256"
	"encoding/binary"
	"fmt"
	"reflect"
	"slices"
	"strings"
	"testing"

	"bevy/api"
	"bevy/book"
	"bevy/bough"
	"bevy/change"
	"bevy/climb"
	"bevy/era"
	"bevy/keys"
	"bevy/ppr"
	"bevy/tree"
)

// The chapters' words, told once more: digests, keys, seals and bytes by the standard library alone.

func digest(parts ...string) api.Hash { return sha256.Sum256([]byte(strings.Join(parts, ""))) }

func text(h api.Hash) string { return string(h[:]) }

func code(key api.Hash, text string) api.Hash {
	c := hmac.New(sha256.New, key[:])
	c.Write([]byte(text))
	return api.Hash(c.Sum(nil))
}

// four are the four bytes of a number.
func four(n int) string { return string(binary.BigEndian.AppendUint32(nil, uint32(n))) }

func derived(key api.Hash, label, context string) api.Hash {
	return code(key, four(len(label))+label+context)
}

func pubOf(priv api.Hash) api.Hash { return digest("pub", text(priv)) }

func markOf(pub api.Hash) api.Hash { return digest("mark", text(pub)) }

func verifyOf(priv api.Hash) api.Hash { return digest("ver", text(priv)) }

func sealOf(key api.Hash, about, plain string) string {
	var b strings.Builder
	row := derived(key, "stream", "")
	for at := 0; at < len(plain); at += 32 {
		block := code(row, four(at/32))
		for i, c := range []byte(plain[at:min(at+32, len(plain))]) {
			b.WriteByte(c ^ block[i])
		}
	}
	tag := derived(derived(key, "tag", ""), about, b.String())
	return b.String() + string(tag[:16])
}

func sharedOf(pub, once api.Hash) api.Hash { return digest("kem", text(pub), text(once)) }

func wrapOf(pub, once api.Hash, about, plain string) string {
	return text(once) + sealOf(sharedOf(pub, once), about, plain)
}

// num is a number as layer 1 writes it.
func num(n int) string {
	switch {
	case n < 1<<6:
		return string([]byte{byte(n)})
	case n < 1<<14:
		return string(binary.BigEndian.AppendUint16(nil, uint16(n|1<<14)))
	case n < 1<<30:
		return string(binary.BigEndian.AppendUint32(nil, uint32(n|2<<30)))
	}
	return string(binary.BigEndian.AppendUint64(nil, uint64(n)|3<<62))
}

func asText(bytes string) string { return num(len(bytes)) + bytes }

func proposalOf(p api.Proposal) string {
	return text(p.Epoch) + num(p.Depth) + num(p.Author) + num(p.Seq) + num(p.Change.Kind) + num(p.Change.Name) + text(p.Change.Pub) + text(p.Sign)
}

func coreOf(c api.Commit) string {
	parts := []string{text(c.Parent), num(c.Depth), num(c.Author), num(len(c.Proposals))}
	for _, p := range c.Proposals {
		parts = append(parts, asText(proposalOf(p)))
	}
	parts = append(parts, text(c.Leaf), text(c.Above), num(len(c.Path)))
	for _, rung := range c.Path {
		parts = append(parts, text(rung.Pub), num(len(rung.Wraps)))
		for _, wrap := range rung.Wraps {
			parts = append(parts, asText(wrap))
		}
	}
	return strings.Join(parts, "")
}

// signedOf is what is signed of a commit.
func signedOf(c api.Commit) string {
	parts := []string{coreOf(c), asText(c.Info), num(len(c.Welcomes))}
	for _, w := range c.Welcomes {
		parts = append(parts, num(w.Name), num(w.Card), asText(w.Wrap))
	}
	return strings.Join(parts, "") + text(c.Tag)
}

func bytesOf(c api.Commit) string { return signedOf(c) + text(c.Sign) }

func idOf(c api.Commit) api.Hash { return digest("epoch", bytesOf(c)) }

// signedBy is a commit with the signature of who has a secret key.
func signedBy(c api.Commit, priv api.Hash) api.Commit {
	c.Sign = code(verifyOf(priv), "sign"+signedOf(c))
	return c
}

func spotOf(core string) int {
	d := digest("spot", core)
	return int(binary.BigEndian.Uint32(d[:4]))
}

func infoOf(f era.Frame) string {
	var b strings.Builder
	b.WriteString(text(f.Said))
	for _, times := range f.Times {
		b.WriteString(num(times))
	}
	return b.String() + asText(tree.Pack(f.Tree))
}

func tagOf(s keys.Secrets, said api.Hash) api.Hash { return code(s.Confirm, "tag"+text(said)) }

// What the chapter says of the calls, where they aren't refused; what they note goes to b.

func note(b *book.Book, ins []api.Hash, outs ...api.Hash) { b.Note(api.Fact{Ins: ins, Outs: outs}) }

func derive(b *book.Book, key api.Hash, label, context string) api.Hash {
	made := derived(key, label, context)
	note(b, []api.Hash{key}, made)
	return made
}

func secretsOf(b *book.Book, f era.Frame, joiner api.Hash) keys.Secrets {
	context := text(f.Parent) + num(f.Depth) + text(tree.Hash(f.Tree)) + text(f.Said)
	s := keys.Secrets{Joiner: joiner, Welcome: derive(b, joiner, "welcome", ""), Epoch: derive(b, joiner, "epoch", context)}
	s.Init = derive(b, s.Epoch, "init", "")
	s.Confirm = derive(b, s.Epoch, "confirm", "")
	s.Apps = derive(b, s.Epoch, "apps", "")
	s.Export = derive(b, s.Epoch, "export", "")
	return s
}

// behindOf is the epoch that a commit's core makes of e, without its name.
func behindOf(b *book.Book, e *era.Era, c api.Commit, g climb.Grown, times api.Times) (era.Frame, keys.Secrets) {
	core := coreOf(c)
	key, _ := e.Init.Look(b, spotOf(core))
	f := era.Frame{Parent: c.Parent, Depth: c.Depth, Tree: g.Tree, Said: digest("said", text(e.Said), core), Times: times}
	joiner := code(key, text(g.Commit))
	note(b, []api.Hash{key, g.Commit}, joiner)
	return f, secretsOf(b, f, joiner)
}

// placeOf is where a name stands.
func placeOf(t api.Tree, name int) int {
	return slices.IndexFunc(t.Leaves, func(leaf api.Leaf) bool { return leaf.Name == name })
}

// secretOver is, of the secrets of the nodes above a leaf, that of the first one which stands above another one, too.
func secretOver(g climb.Grown, place, other int) api.Hash {
	n := len(g.Tree.Leaves)
	for i, x := range bough.Direct(n, place) {
		if slices.Contains(bough.Direct(n, other), x) {
			return g.Secrets[i]
		}
	}
	return api.Hash{}
}

// builtOf is the commit that Build makes, whether the list fits or not, and the author's era behind it.
func builtOf(b *book.Book, e *era.Era, roll []api.Person, priv api.Hash, list []api.Proposal, once api.Hash) (api.Commit, *era.Era) {
	changed, times, fresh, _ := change.Apply(e.Tree, e.Times, roll, list)
	place, about := placeOf(changed, e.Me), text(e.Id)
	g, _ := climb.Grow(b, changed, place, once, about, fresh)
	leaf := g.Tree.Leaves[place]
	c := api.Commit{Parent: e.Id, Depth: e.Depth + 1, Author: e.Me, Proposals: list, Leaf: leaf.Pub, Above: leaf.Above, Path: g.Rungs}
	f, s := behindOf(b, e, c, g, times)
	c.Info = sealOf(s.Welcome, about, infoOf(f))
	for i, at := range fresh {
		name := changed.Leaves[at].Name
		card := e.Times[name-1]
		pub := roll[name-1].Cards[card].Init
		secret, key := secretOver(g, place, at), derive(b, once, "welcome", num(i))
		note(b, []api.Hash{markOf(pub)}, sharedOf(pub, key))
		note(b, []api.Hash{key}, sharedOf(pub, key))
		note(b, []api.Hash{sharedOf(pub, key)}, s.Joiner, secret)
		c.Welcomes = append(c.Welcomes, api.Welcome{Name: name, Card: card, Wrap: wrapOf(pub, key, about, text(s.Joiner)+text(secret))})
	}
	c.Tag = tagOf(s, f.Said)
	c = signedBy(c, priv)
	f.Id = idOf(c)
	made, _ := era.Make(b, f, e.Me, g.Keys, s)
	return c, made
}

// processedOf is the era that Process makes; leaf is the key of the own leaf, as it is once the proposals are applied.
func processedOf(b *book.Book, e *era.Era, roll []api.Person, c api.Commit, leaf api.Hash) *era.Era {
	changed, times, fresh, _ := change.Apply(e.Tree, e.Times, roll, c.Proposals)
	mine := placeOf(changed, e.Me)
	known := append([]api.Key{{Node: 2 * mine, Priv: leaf}}, e.Keys...)
	g, _ := climb.Follow(b, changed, placeOf(changed, c.Author), c.Leaf, c.Path, text(e.Id), fresh, mine, known)
	f, s := behindOf(b, e, c, g, times)
	f.Id = idOf(c)
	made, _ := era.Make(b, f, e.Me, g.Keys, s)
	return made
}

// joinedOf is the era that Join makes of what the author's era has; the two secrets are those of the welcome.
func joinedOf(b *book.Book, me int, author *era.Era, c api.Commit, joiner, secret, leaf api.Hash) *era.Era {
	f := author.Frame
	g, _ := climb.Enter(b, f.Tree, placeOf(f.Tree, c.Author), placeOf(f.Tree, me), secret, leaf)
	made, _ := era.Make(b, f, me, g.Keys, secretsOf(b, f, joiner))
	return made
}

// opened are the two secrets in the welcome that a name has.
func opened(t *testing.T, c api.Commit, name int, init api.Hash) (joiner, secret api.Hash) {
	t.Helper()
	for _, w := range c.Welcomes {
		if w.Name != name {
			continue
		}
		shared := sharedOf(pubOf(init), api.Hash([]byte(w.Wrap[:32])))
		// A seal put exclusively once more is the text.
		plain := sealOf(shared, "", w.Wrap[32:len(w.Wrap)-16])
		if len(plain) == 64+16 {
			return api.Hash([]byte(plain[:32])), api.Hash([]byte(plain[32:64]))
		}
	}
	t.Fatalf("no welcome of the name %d opens", name)
	return
}

// Keys, people, groups.

// key is the n-th of many keys.
func key(n int) api.Hash {
	var h api.Hash
	binary.BigEndian.PutUint64(h[8:], uint64(n)+1)
	h[0], h[31] = 0xa5, byte(n)
	return h
}

const cards = 4 // that each person has

func signer(name int) api.Hash { return key(1000 + name) }

// deckOf are the secret keys of a name's cards.
func deckOf(name int) []api.Card {
	var deck []api.Card
	for k := range cards {
		deck = append(deck, api.Card{Init: key(2000 + 64*k + name), Leaf: key(3000 + 64*k + name)})
	}
	return deck
}

func rollOf(n int) []api.Person {
	var roll []api.Person
	for name := 1; name <= n; name++ {
		person := api.Person{Verify: verifyOf(signer(name))}
		for _, card := range deckOf(name) {
			person.Cards = append(person.Cards, api.Card{Init: pubOf(card.Init), Leaf: pubOf(card.Leaf)})
		}
		roll = append(roll, person)
	}
	return roll
}

// asked is a proposal of an epoch.
func asked(e *era.Era, author, kind, name int, pub api.Hash) api.Proposal {
	p := api.Proposal{Epoch: e.Id, Depth: e.Depth, Author: author, Seq: 1, Change: api.Change{Kind: kind, Name: name, Pub: pub}}
	return change.Sign(p, signer(author))
}

func add(e *era.Era, author, name int) api.Proposal {
	return asked(e, author, api.Add, name, api.Hash{})
}

func remove(e *era.Era, author, name int) api.Proposal {
	return asked(e, author, api.Remove, name, api.Hash{})
}

func update(e *era.Era, name int, priv api.Hash) api.Proposal {
	return asked(e, name, api.Update, name, pubOf(priv))
}

// What calls answer, held against each other.

func alikeRungs(a, b []api.Rung) bool {
	return slices.EqualFunc(a, b, func(p, q api.Rung) bool { return p.Pub == q.Pub && slices.Equal(p.Wraps, q.Wraps) })
}

// unlike names what isn't alike in two commits; nothing, if all is.
func unlike(a, b api.Commit) string {
	var parts []string
	for name, same := range map[string]bool{
		"Parent":    a.Parent == b.Parent,
		"Depth":     a.Depth == b.Depth,
		"Author":    a.Author == b.Author,
		"Proposals": slices.Equal(a.Proposals, b.Proposals),
		"Leaf":      a.Leaf == b.Leaf,
		"Above":     a.Above == b.Above,
		"Path":      alikeRungs(a.Path, b.Path),
		"Info":      a.Info == b.Info,
		"Welcomes":  slices.Equal(a.Welcomes, b.Welcomes),
		"Tag":       a.Tag == b.Tag,
		"Sign":      a.Sign == b.Sign,
	} {
		if !same {
			parts = append(parts, name)
		}
	}
	slices.Sort(parts)
	return strings.Join(parts, ", ")
}

func isNone(c api.Commit) bool { return unlike(c, api.Commit{}) == "" }

func wantCommit(t *testing.T, what string, got, want api.Commit) {
	t.Helper()
	if bad := unlike(got, want); bad != "" {
		t.Errorf("%s: %s of the commit isn't right", what, bad)
	}
}

// unlikeEras names what isn't alike in two eras; nothing, if all is.
func unlikeEras(a, b *era.Era) string {
	if a == nil || b == nil {
		return fmt.Sprint("none: ", a == nil, ", ", b == nil)
	}
	if a.Pack() == b.Pack() && a.Pack() != "" {
		return ""
	}
	var parts []string
	for name, same := range map[string]bool{
		"Id":     a.Id == b.Id,
		"Parent": a.Parent == b.Parent,
		"Depth":  a.Depth == b.Depth,
		"Tree":   tree.Pack(a.Tree) == tree.Pack(b.Tree),
		"Said":   a.Said == b.Said,
		"Times":  a.Times == b.Times,
		"Me":     a.Me == b.Me,
		"Keys":   slices.Equal(a.Keys, b.Keys),
		"Init":   a.Init.Pack() == b.Init.Pack(),
		"Forks":  a.Forks == b.Forks,
		"Sent":   a.Sent == b.Sent,
		"Export": a.Export == b.Export,
	} {
		if !same {
			parts = append(parts, name)
		}
	}
	slices.Sort(parts)
	return "(" + strings.Join(parts, ", ") + ")"
}

func wantEra(t *testing.T, what string, got, want *era.Era) {
	t.Helper()
	if bad := unlikeEras(got, want); bad != "" {
		t.Errorf("%s: %s of the era isn't alike", what, bad)
	}
}

// wantSpent demands that an era has changed by one commit alone: a Fork more, and the key at its spot gone.
func wantSpent(t *testing.T, what string, before, e *era.Era, c api.Commit) {
	t.Helper()
	want := before.Copy()
	want.Forks++
	want.Init.Take(nil, spotOf(coreOf(c)))
	wantEra(t, what+": the epoch ahead", e, want)
}

// wantNoted demands that a book has just the facts that a model notes, and that an epoch's name names its secret.
func wantNoted(t *testing.T, what string, b *book.Book, id api.Hash, model func(b *book.Book)) {
	t.Helper()
	want := book.New()
	model(want)
	epoch, _ := want.Named(fmt.Sprintf("epoch %x", id))
	if got, ok := b.Named(fmt.Sprintf("epoch %x", id)); !ok || got != epoch {
		t.Errorf("%s: the epoch's name names %x, %t, want %x", what, got, ok, epoch)
	}
	n := b.Len()
	model(b)
	if n != want.Len() || b.Len() != n {
		t.Errorf("%s: the book has %d facts, want %d; it lacks %d of them", what, n, want.Len(), b.Len()-n)
	}
}

// Memory: what is handed in keeps what it has, spare room included, and no list of an answer has any of it.

// roomy is a list alike, with spare room behind it, in which mark stands.
func roomy[T any](list []T, mark T) []T {
	made := make([]T, len(list), len(list)+3)
	copy(made, list)
	for i := len(list); i < cap(made); i++ {
		made[:cap(made)][i] = mark
	}
	return made
}

func lentRoll(roll []api.Person) []api.Person {
	made := roomy(roll, api.Person{Verify: key(7)})
	for i := range made {
		made[i].Cards = roomy(made[i].Cards, api.Card{Init: key(7)})
	}
	return made
}

func lentCommit(c api.Commit) api.Commit {
	c.Proposals = roomy(c.Proposals, api.Proposal{Seq: 777})
	c.Path = roomy(c.Path, api.Rung{Pub: key(7)})
	for i := range c.Path {
		c.Path[i].Wraps = roomy(c.Path[i].Wraps, "spare")
	}
	c.Welcomes = roomy(c.Welcomes, api.Welcome{Name: 777})
	return c
}

// block is the memory of a list or of a row.
type block struct {
	from, behind uintptr
	name         string
}

// blocks are those of all lists and rows in a value; what a row has within itself is its own package's matter.
func blocks(name string, v reflect.Value) []block {
	var found []block
	switch v.Kind() {
	case reflect.Pointer:
		if v.IsNil() {
			return nil
		}
		if v.Type() == reflect.TypeFor[*ppr.Row]() {
			return []block{{v.Pointer(), v.Pointer() + v.Type().Elem().Size(), name}}
		}
		return blocks(name, v.Elem())
	case reflect.Struct:
		for i := range v.NumField() {
			found = append(found, blocks(name+"."+v.Type().Field(i).Name, v.Field(i))...)
		}
	case reflect.Slice:
		if v.Cap() > 0 {
			found = append(found, block{v.Pointer(), v.Pointer() + uintptr(v.Cap())*v.Type().Elem().Size(), name})
		}
		whole := v.Slice(0, v.Cap())
		for i := range v.Cap() {
			found = append(found, blocks(fmt.Sprint(name, "[", i, "]"), whole.Index(i))...)
		}
	}
	return found
}

// wantApart demands that nothing in these values shares memory.
func wantApart(t *testing.T, what string, values map[string]any) {
	t.Helper()
	var found []block
	for name, v := range values {
		found = append(found, blocks(name, reflect.ValueOf(v))...)
	}
	slices.SortFunc(found, func(a, b block) int {
		if a.from < b.from {
			return -1
		}
		return 1
	})
	for i := 1; i < len(found); i++ {
		if found[i].from < found[i-1].behind {
			t.Errorf("%s: %s and %s share memory", what, found[i-1].name, found[i].name)
			return
		}
	}
}

// whole is all that lists have, spare room included, as a text.
func whole(values ...any) string {
	var b strings.Builder
	var put func(v reflect.Value)
	put = func(v reflect.Value) {
		switch v.Kind() {
		case reflect.Struct:
			for i := range v.NumField() {
				put(v.Field(i))
			}
		case reflect.Slice:
			fmt.Fprint(&b, "<", v.Len(), ",", v.Cap(), ":")
			for i := range v.Cap() {
				put(v.Slice(0, v.Cap()).Index(i))
			}
			b.WriteString(">")
		default:
			fmt.Fprintf(&b, "%v;", v)
		}
	}
	for _, v := range values {
		put(reflect.ValueOf(v))
	}
	return b.String()
}
