package book_test

import (
	"encoding/binary"
	"math/rand"
	"slices"
	"strings"
	"testing"

	"bevy/api"
	"bevy/book"
	"bevy/sha"
)

// one is a secret of which the last bytes are a number, so that greater numbers make later ones.
func one(n int) api.Hash {
	var h api.Hash
	binary.BigEndian.PutUint64(h[24:], uint64(n))
	return h
}

func several(numbers ...int) []api.Hash {
	var list []api.Hash
	for _, n := range numbers {
		list = append(list, one(n))
	}
	return list
}

// fact is one of which the secrets are told as numbers.
func fact(ins, outs []int) api.Fact {
	return api.Fact{Ins: several(ins...), Outs: several(outs...)}
}

// note notes what must be taken.
func note(t *testing.T, b *book.Book, facts ...api.Fact) {
	t.Helper()
	for _, f := range facts {
		if e := b.Note(f); e != api.OK {
			t.Fatalf("Note(%v) = %d", f, e)
		}
	}
}

func bookOf(t *testing.T, facts ...api.Fact) *book.Book {
	t.Helper()
	b := book.New()
	note(t, b, facts...)
	return b
}

// want holds what follows of from against the secrets told, and Knows against each of them and against others.
func want(t *testing.T, b *book.Book, from []api.Hash, all ...int) {
	t.Helper()
	expected := several(all...)
	if got := b.Follows(from...); !slices.Equal(got, expected) {
		t.Errorf("Follows(%v) = %v, want %v", from, got, expected)
	}
	for n := range 40 {
		if got := b.Knows(one(n), from...); got != slices.Contains(expected, one(n)) {
			t.Errorf("Knows(%d, %v) = %t", n, from, got)
		}
	}
}

// plainly is what follows, found without any art: every fact is tried until none gives more.
func plainly(facts []api.Fact, from []api.Hash) []api.Hash {
	known := map[api.Hash]bool{}
	for _, h := range from {
		known[h] = true
	}
	for before := -1; before != len(known); {
		before = len(known)
		for _, f := range facts {
			if slices.ContainsFunc(f.Ins, func(h api.Hash) bool { return !known[h] }) {
				continue
			}
			for _, h := range f.Outs {
				known[h] = true
			}
		}
	}
	var list []api.Hash
	for h := range known {
		list = append(list, h)
	}
	slices.SortFunc(list, sha.Cmp)
	return list
}

// anyFacts are facts about the secrets 0 to most - 1, some without Ins, some with a secret twice.
func anyFacts(r *rand.Rand, many, most int) []api.Fact {
	facts := make([]api.Fact, many)
	for i := range facts {
		for range r.Intn(4) {
			facts[i].Ins = append(facts[i].Ins, one(r.Intn(most)))
		}
		for range 1 + r.Intn(2) {
			facts[i].Outs = append(facts[i].Outs, one(r.Intn(most)))
		}
		if r.Intn(5) > 0 && len(facts[i].Ins) == 0 {
			facts[i].Ins = several(r.Intn(most))
		}
	}
	return facts
}

func anySecrets(r *rand.Rand, most int) []api.Hash {
	var list []api.Hash
	for range r.Intn(4) {
		list = append(list, one(r.Intn(most)))
	}
	return list
}

// within tells whether all of less stands in more.
func within(less, more []api.Hash) bool {
	return !slices.ContainsFunc(less, func(h api.Hash) bool { return !slices.Contains(more, h) })
}

// The chapter's example.

func TestExample(t *testing.T) {
	const a, b, c, d = 1, 2, 3, 4
	x := bookOf(t, fact([]int{a}, []int{b}), fact([]int{b, c}, []int{d}))
	want(t, x, several(a), a, b)
	want(t, x, several(a, c), a, b, c, d)
	want(t, x, several(c), c)
	want(t, x, several(b), b)
	want(t, x, several(b, c), b, c, d)
	want(t, x, several(d), d)
	want(t, x, nil)
}

// Promise 4.1: New, Note, Len.

func TestNewBookHasNothing(t *testing.T) {
	b := book.New()
	if b == nil || b.Len() != 0 {
		t.Fatalf("a new book has facts, or isn't there")
	}
	want(t, b, nil)
	want(t, b, several(1, 0), 0, 1)
	if h, ok := b.Named(""); ok || h != (api.Hash{}) {
		t.Errorf("Named = %v, %t", h, ok)
	}
}

func TestBooksAreApart(t *testing.T) {
	a, b := book.New(), book.New()
	note(t, a, fact([]int{1}, []int{2}))
	a.Name("k", one(1))
	if b.Len() != 0 {
		t.Errorf("Len of the other book = %d", b.Len())
	}
	want(t, b, several(1), 1)
	if _, ok := b.Named("k"); ok {
		t.Errorf("the other book has the name")
	}
}

func TestFactWithoutOuts(t *testing.T) {
	b := bookOf(t, fact([]int{1}, []int{2}))
	for _, f := range []api.Fact{
		{},
		fact([]int{1}, nil),
		fact([]int{3, 4}, nil),
		{Ins: several(1), Outs: []api.Hash{}},
		{Ins: []api.Hash{}, Outs: several(5)[:0]},
	} {
		if e := b.Note(f); e != api.ErrArg {
			t.Errorf("Note(%v) = %d, want ErrArg", f, e)
		}
	}
	if b.Len() != 1 {
		t.Errorf("Len = %d", b.Len())
	}
	want(t, b, several(1, 3, 4), 1, 2, 3, 4)
}

func TestFactWithoutIns(t *testing.T) {
	b := bookOf(t, fact(nil, []int{1, 2}), fact([]int{2, 5}, []int{6}))
	want(t, b, nil, 1, 2)
	want(t, b, several(1), 1, 2)
	want(t, b, several(5), 1, 2, 5, 6)
	note(t, b, fact([]int{1, 2}, []int{3}))
	want(t, b, nil, 1, 2, 3)
}

// No list and a list of none are one, so the fact without Ins is the very same either way.
func TestFactWithoutInsTwice(t *testing.T) {
	b := bookOf(t, api.Fact{Outs: several(1)}, api.Fact{Ins: []api.Hash{}, Outs: several(1)}, api.Fact{Ins: several(9)[:0], Outs: several(1)})
	if b.Len() != 1 {
		t.Errorf("Len = %d", b.Len())
	}
	want(t, b, nil, 1)
}

func TestTheVerySameFactTwice(t *testing.T) {
	facts := []api.Fact{
		fact([]int{1}, []int{2}),
		fact([]int{2, 3}, []int{4, 5}),
		fact(nil, []int{6}),
		fact([]int{7, 7}, []int{8, 8}),
	}
	b := bookOf(t, facts...)
	for range 3 {
		note(t, b, facts...)
		if b.Len() != len(facts) {
			t.Errorf("Len = %d, want %d", b.Len(), len(facts))
		}
	}
	want(t, b, several(1, 3), 1, 2, 3, 4, 5, 6)
}

// Only the same Ins and Outs in the same order are the very same fact.
func TestFactsThatAreUnlike(t *testing.T) {
	facts := []api.Fact{
		fact([]int{1, 2}, []int{3, 4}),
		fact([]int{2, 1}, []int{3, 4}),
		fact([]int{1, 2}, []int{4, 3}),
		fact([]int{2, 1}, []int{4, 3}),
		fact([]int{1}, []int{2, 3, 4}),
		fact([]int{1, 2, 3}, []int{4}),
		fact(nil, []int{1, 2, 3, 4}),
		fact([]int{3, 4}, []int{1, 2}),
		fact([]int{1, 2}, []int{3, 4, 4}),
		fact([]int{1, 2}, []int{3}),
		fact([]int{1, 1, 2}, []int{3, 4}),
		fact([]int{1, 2, 2}, []int{3, 4}),
		fact([]int{1, 2}, []int{3, 5}),
		fact([]int{0, 2}, []int{3, 4}),
	}
	b := book.New()
	for i, f := range facts {
		note(t, b, f)
		if b.Len() != i+1 {
			t.Errorf("behind %v: Len = %d, want %d", f, b.Len(), i+1)
		}
	}
	note(t, b, facts...)
	if b.Len() != len(facts) {
		t.Errorf("Len behind all of them again = %d, want %d", b.Len(), len(facts))
	}
}

// A fact that differs from another one in one bit alone is another fact.
func TestFactsThatDifferInOneByte(t *testing.T) {
	b := bookOf(t, fact([]int{1}, []int{2}))
	for at := range 32 {
		in, out := one(1), one(2)
		in[at] ^= 0x80
		out[at] ^= 0x80
		note(t, b, api.Fact{Ins: []api.Hash{in}, Outs: several(2)}, api.Fact{Ins: several(1), Outs: []api.Hash{out}})
		if b.Len() != 3+2*at {
			t.Fatalf("behind those that differ in byte %d: Len = %d, want %d", at, b.Len(), 3+2*at)
		}
		if b.Knows(out, in) || !b.Knows(one(2), in) {
			t.Errorf("what differs in byte %d is taken for another secret", at)
		}
	}
}

func TestFactChangedByItsOwner(t *testing.T) {
	room := append(several(1, 2), several(30, 31, 32)...)
	f := api.Fact{Ins: room[0:1], Outs: room[1:2]}
	b := bookOf(t, f)
	if !slices.Equal(room, several(1, 2, 30, 31, 32)) {
		t.Errorf("Note changed what it was handed, or the room behind it: %v", room)
	}
	for i := range room {
		room[i] = one(20 + i)
	}
	want(t, b, several(1), 1, 2)
	want(t, b, several(20), 20)
	if note(t, b, fact([]int{1}, []int{2})); b.Len() != 1 {
		t.Errorf("the fact as it was is another one: Len = %d", b.Len())
	}
	if note(t, b, f); b.Len() != 2 {
		t.Errorf("the fact as it is now is the same one: Len = %d", b.Len())
	}
	want(t, b, several(20), 20, 21)
	want(t, b, several(1), 1, 2)
}

// fill fills a book with facts of which the i-th tells that i and 1 make i + 1.
func fill(t *testing.T, b *book.Book, most int) {
	t.Helper()
	ins, outs := make([]api.Hash, 2), make([]api.Hash, 1)
	for i := range most {
		ins[0], ins[1], outs[0] = one(i), one(1), one(i+1)
		if e := b.Note(api.Fact{Ins: ins, Outs: outs}); e != api.OK {
			t.Fatalf("Note of the fact %d = %d", i, e)
		}
	}
}

func TestFullBook(t *testing.T) {
	if testing.Short() {
		t.Skip("2^20 facts take seconds")
	}
	b := book.New()
	fill(t, b, api.MaxBook-1)
	last := api.Fact{Ins: several(1), Outs: several(api.MaxBook)}
	note(t, b, last)
	for range 2 {
		for _, c := range []struct {
			f    api.Fact
			want api.Errno
		}{
			{fact([]int{1}, []int{api.MaxBook + 1}), api.ErrFull},
			{fact(nil, []int{api.MaxBook + 1}), api.ErrFull},
			{fact([]int{1, 5}, []int{6}), api.ErrFull},
			{fact([]int{5}, []int{1, 6}), api.ErrFull},
			{fact([]int{1}, nil), api.ErrArg},
			{fact([]int{5, 1}, []int{6}), api.OK},
			{fact([]int{0, 1}, []int{1}), api.OK},
			{last, api.OK},
		} {
			if e := b.Note(c.f); e != c.want {
				t.Errorf("Note(%v) = %d, want %d", c.f, e, c.want)
			}
			if b.Len() != api.MaxBook {
				t.Errorf("Len = %d, want %d", b.Len(), api.MaxBook)
			}
		}
	}
	all := b.Follows(one(1))
	if len(all) != api.MaxBook || all[0] != one(1) || all[api.MaxBook-1] != one(api.MaxBook) {
		t.Errorf("Follows has %d secrets, from %v on", len(all), all[0])
	}
	want(t, b, several(5), 5)
	b.Name("k", one(3))
	if h, ok := b.Named("k"); !ok || h != one(3) {
		t.Errorf("a full book takes no name: %v, %t", h, ok)
	}
}

// Promise 4.2: Name, Named.

func TestNames(t *testing.T) {
	b := book.New()
	long := strings.Repeat("n", 100000)
	names := []string{"", "k", "K", "k ", "\x00", "\xff\xfe", "\u00e9", long, long + "n"}
	for i, name := range names {
		if h, ok := b.Named(name); ok || h != (api.Hash{}) {
			t.Errorf("ahead of Name: Named(%.9q) = %v, %t", name, h, ok)
		}
		b.Name(name, one(i))
	}
	for i, name := range names {
		if h, ok := b.Named(name); !ok || h != one(i) {
			t.Errorf("Named(%.9q) = %v, %t, want %d", name, h, ok, i)
		}
	}
	for _, name := range []string{"j", "kk", " k", "\x00\x00", long[1:]} {
		if h, ok := b.Named(name); ok || h != (api.Hash{}) {
			t.Errorf("Named(%.9q) = %v, %t", name, h, ok)
		}
	}
	if b.Len() != 0 {
		t.Errorf("names count as facts: Len = %d", b.Len())
	}
}

func TestNamesNamedAnew(t *testing.T) {
	b := book.New()
	b.Name("j", one(7))
	for _, n := range []int{1, 2, 2, 0, 1} {
		b.Name("k", one(n))
		if h, ok := b.Named("k"); !ok || h != one(n) {
			t.Errorf("Named = %v, %t, want %d", h, ok, n)
		}
		if h, ok := b.Named("j"); !ok || h != one(7) {
			t.Errorf("the other name: %v, %t", h, ok)
		}
	}
}

// Noughts are a secret like others: what names them names something.
func TestNameOfNoughts(t *testing.T) {
	b := book.New()
	b.Name("k", api.Hash{})
	if h, ok := b.Named("k"); !ok || h != (api.Hash{}) {
		t.Errorf("Named = %v, %t", h, ok)
	}
}

func TestOneSecretOfTwoNames(t *testing.T) {
	b := bookOf(t, fact([]int{1}, []int{2}))
	b.Name("k", one(1))
	b.Name("j", one(1))
	b.Name("k", one(2))
	if h, ok := b.Named("j"); !ok || h != one(1) {
		t.Errorf("Named = %v, %t", h, ok)
	}
	want(t, b, several(1), 1, 2)
	want(t, b, nil)
}

// Promise 4.3: Follows, Knows.

func TestFollowsOfNoSecret(t *testing.T) {
	b := bookOf(t, fact([]int{1}, []int{2}))
	var none []api.Hash
	for name, got := range map[string][]api.Hash{
		"nothing":        b.Follows(),
		"no list":        b.Follows(none...),
		"a list of none": b.Follows([]api.Hash{}...),
	} {
		if len(got) != 0 {
			t.Errorf("Follows of %s = %v", name, got)
		}
	}
	if b.Knows(one(1)) || b.Knows(api.Hash{}) {
		t.Errorf("something is known of nothing")
	}
}

func TestFollowsOfSecretsGivenTwice(t *testing.T) {
	b := bookOf(t, fact([]int{1}, []int{2}), fact([]int{1, 3}, []int{4}), fact([]int{5, 5}, []int{6}))
	want(t, b, several(1, 1), 1, 2)
	want(t, b, several(1, 1, 1, 1), 1, 2)
	want(t, b, several(3, 1, 3, 2, 1), 1, 2, 3, 4)
	want(t, b, several(9, 9), 9)
	want(t, b, several(5, 5), 5, 6)
}

func TestFollowsOfSecretsOfNoFact(t *testing.T) {
	b := bookOf(t, fact([]int{1}, []int{2}))
	want(t, b, several(9, 7, 8), 7, 8, 9)
	want(t, b, several(9, 1), 1, 2, 9)
}

// A secret that a fact needs twice is needed once.
func TestInsThatStandTwice(t *testing.T) {
	b := bookOf(t, fact([]int{1, 1}, []int{2}), fact([]int{3, 4, 3, 3}, []int{5, 5}))
	want(t, b, several(1), 1, 2)
	want(t, b, several(3), 3)
	want(t, b, several(4), 4)
	want(t, b, several(4, 3), 3, 4, 5)
}

func TestAllInsAreNeeded(t *testing.T) {
	b := bookOf(t, fact([]int{1, 2, 3, 4}, []int{5, 6}))
	for without := 1; without <= 4; without++ {
		var from []int
		for n := 1; n <= 4; n++ {
			if n != without {
				from = append(from, n)
			}
		}
		want(t, b, several(from...), from...)
	}
	want(t, b, several(4, 2, 1, 3), 1, 2, 3, 4, 5, 6)
}

// Two facts that make one secret are two ways to it, not one way that needs both.
func TestSeveralWaysToASecret(t *testing.T) {
	b := bookOf(t, fact([]int{1, 2}, []int{9}), fact([]int{3, 4}, []int{9}), fact([]int{1, 2}, []int{9, 8}))
	want(t, b, several(1, 3), 1, 3)
	want(t, b, several(1, 2), 1, 2, 8, 9)
	want(t, b, several(3, 4), 3, 4, 9)
}

func TestFollowsRises(t *testing.T) {
	first, last := api.Hash{0: 0x01}, api.Hash{0: 0x80}
	middle := api.Hash{0: 0x01, 31: 0xff}
	b := book.New()
	note(t, b, api.Fact{Ins: []api.Hash{last}, Outs: []api.Hash{middle, {}, first}})
	if got := b.Follows(last); !slices.Equal(got, []api.Hash{{}, first, middle, last}) {
		t.Errorf("Follows = %v", got)
	}
}

func TestFactsInARing(t *testing.T) {
	b := bookOf(t, fact([]int{1}, []int{2}), fact([]int{2}, []int{3}), fact([]int{3}, []int{1}))
	for n := 1; n <= 3; n++ {
		want(t, b, several(n), 1, 2, 3)
	}
	want(t, b, several(4), 4)
	want(t, b, nil)
	itself := bookOf(t, fact([]int{1}, []int{1}), fact([]int{1, 2}, []int{2}))
	want(t, itself, several(1), 1)
	want(t, itself, several(2), 2)
	want(t, itself, nil)
}

// Facts that need one another make nothing of nothing.
func TestRingThatNeedsASecretFromWithout(t *testing.T) {
	b := bookOf(t, fact([]int{1, 4}, []int{2}), fact([]int{2, 4}, []int{3}), fact([]int{3}, []int{1, 5}))
	want(t, b, several(4), 4)
	want(t, b, several(1), 1)
	want(t, b, several(4, 2), 1, 2, 3, 4, 5)
	want(t, b, several(3), 1, 3, 5)
	note(t, b, fact(nil, []int{4}))
	want(t, b, nil, 4)
	want(t, b, several(1), 1, 2, 3, 4, 5)
}

func TestFactsNotedInAnotherOrder(t *testing.T) {
	facts := []api.Fact{
		fact([]int{1}, []int{2}),
		fact([]int{2, 3}, []int{4}),
		fact([]int{4}, []int{5, 6}),
		fact([]int{6, 1}, []int{3}),
		fact([]int{2}, []int{7}),
		fact([]int{7}, []int{6}),
		fact(nil, []int{8}),
	}
	r := rand.New(rand.NewSource(1))
	for range 200 {
		r.Shuffle(len(facts), func(i, j int) { facts[i], facts[j] = facts[j], facts[i] })
		b := bookOf(t, facts...)
		want(t, b, several(1), 1, 2, 3, 4, 5, 6, 7, 8)
		want(t, b, several(4), 4, 5, 6, 8)
		want(t, b, several(7, 3), 3, 6, 7, 8)
		if b.Len() != len(facts) {
			t.Errorf("Len = %d", b.Len())
		}
	}
}

// A chain, noted from its end on, and a secret that a great many facts need: neither may cost more than what it has.
func TestManyFacts(t *testing.T) {
	const many = 1 << 17
	chain, fan := book.New(), book.New()
	for i := many; i > 0; i-- {
		note(t, chain, fact([]int{i}, []int{i + 1}))
		note(t, fan, fact([]int{0, i}, []int{i + 1, many + 1}))
	}
	for name, b := range map[string]*book.Book{"chain": chain, "fan": fan} {
		all := b.Follows(several(0, 1)...)
		if len(all) != many+2 || all[0] != one(0) || all[many+1] != one(many+1) || !slices.IsSortedFunc(all, sha.Cmp) {
			t.Errorf("%s: Follows has %d secrets", name, len(all))
		}
		if b.Knows(one(1), one(0)) || !b.Knows(one(many+1), one(0), one(many)) {
			t.Errorf("%s: Knows is wrong", name)
		}
	}
	if len(fan.Follows(one(0))) != 1 {
		t.Errorf("facts of which one secret lacks give theirs")
	}
}

func TestFactOfManySecrets(t *testing.T) {
	const many = 1 << 12
	var ins, outs []int
	for i := range many {
		ins = append(ins, i)
		outs = append(outs, many+i, i)
	}
	b := bookOf(t, fact(ins, outs))
	if got := b.Follows(several(ins...)...); len(got) != 2*many || got[2*many-1] != one(2*many-1) {
		t.Errorf("Follows of all has %d secrets", len(got))
	}
	if got := b.Follows(several(ins[1:]...)...); len(got) != many-1 {
		t.Errorf("Follows of all but one has %d secrets", len(got))
	}
}

// To ask changes nothing: neither the book, nor what was handed in, nor earlier answers.
func TestAskingChangesNothing(t *testing.T) {
	b := bookOf(t, fact([]int{1}, []int{2}), fact([]int{2, 3}, []int{4}))
	room := several(3, 1, 3, 30, 31)
	first := b.Follows(room[:3]...)
	b.Knows(one(4), room[:3]...)
	if !slices.Equal(room, several(3, 1, 3, 30, 31)) {
		t.Errorf("what was handed in, or the room behind it, changed: %v", room)
	}
	second := b.Follows(room[:3]...)
	for _, list := range [][]api.Hash{first[:cap(first)], room} {
		for i := range list {
			list[i] = one(20)
		}
	}
	if !slices.Equal(second, several(1, 2, 3, 4)) {
		t.Errorf("two answers share memory: %v", second)
	}
	want(t, b, several(1, 3), 1, 2, 3, 4)
	want(t, b, several(1), 1, 2)
	if b.Len() != 2 {
		t.Errorf("Len = %d", b.Len())
	}
}

// What is noted between two questions is seen by the second.
func TestNotedBetweenQuestions(t *testing.T) {
	b := book.New()
	want(t, b, several(1), 1)
	note(t, b, fact([]int{2, 1}, []int{3}))
	want(t, b, several(1), 1)
	note(t, b, fact([]int{1}, []int{2}))
	want(t, b, several(1), 1, 2, 3)
}

func TestFollowsIsWhatFollowsPlainly(t *testing.T) {
	r := rand.New(rand.NewSource(2))
	for range 3000 {
		facts := anyFacts(r, r.Intn(12), 10)
		b := bookOf(t, facts...)
		from := anySecrets(r, 10)
		all := plainly(facts, from)
		if got := b.Follows(from...); !slices.Equal(got, all) {
			t.Fatalf("of %v with %v: %v, want %v", from, facts, got, all)
		}
		for n := range 10 {
			if got := b.Knows(one(n), from...); got != slices.Contains(all, one(n)) {
				t.Fatalf("Knows(%d) of %v with %v = %t", n, from, facts, got)
			}
		}
	}
}

// Promise 4.4: nil.

func TestNilBook(t *testing.T) {
	var b *book.Book
	for _, c := range []struct {
		f    api.Fact
		want api.Errno
	}{
		{fact([]int{1}, []int{2}), api.OK},
		{fact([]int{1}, []int{2}), api.OK},
		{fact(nil, []int{3}), api.OK},
		{fact([]int{1}, nil), api.ErrArg},
		{api.Fact{}, api.ErrArg},
		{api.Fact{Outs: []api.Hash{}}, api.ErrArg},
	} {
		if e := b.Note(c.f); e != c.want {
			t.Errorf("Note(%v) = %d, want %d", c.f, e, c.want)
		}
	}
	b.Name("k", one(1))
	b.Name("", one(1))
	for _, name := range []string{"k", "", "j"} {
		if h, ok := b.Named(name); ok || h != (api.Hash{}) {
			t.Errorf("Named(%q) = %v, %t", name, h, ok)
		}
	}
	if b.Len() != 0 {
		t.Errorf("Len = %d", b.Len())
	}
	want(t, b, nil)
	want(t, b, several(1), 1)
	want(t, b, several(5, 1, 5, 3), 1, 3, 5)
}

func TestNilBooksAnswersAreNewMemory(t *testing.T) {
	var b *book.Book
	room := several(1, 2, 30)
	got := b.Follows(room[:2]...)
	again := b.Follows(room[:2]...)
	for i := range got[:cap(got)] {
		got[:cap(got)][i] = one(20)
	}
	if !slices.Equal(room, several(1, 2, 30)) || !slices.Equal(again, several(1, 2)) {
		t.Errorf("an answer shares memory: %v, %v", room, again)
	}
}

// Promise 4.5: more secrets, more facts.

func TestMoreSecretsMoreFacts(t *testing.T) {
	r := rand.New(rand.NewSource(3))
	for range 1000 {
		facts := anyFacts(r, r.Intn(15), 12)
		from, more := anySecrets(r, 12), anySecrets(r, 12)
		b := bookOf(t, facts...)
		all := b.Follows(from...)
		if !within(from, all) {
			t.Fatalf("of %v with %v: %v lacks some of these", from, facts, all)
		}
		if got := b.Follows(slices.Concat(more, from)...); !within(all, got) {
			t.Fatalf("of %v and %v with %v: %v, but of the first %v", from, more, facts, got, all)
		}
		if got := b.Follows(all...); !slices.Equal(got, all) {
			t.Fatalf("of what follows of %v with %v: %v, not %v", from, facts, got, all)
		}
		for range 3 {
			note(t, b, anyFacts(r, 1, 12)...)
			got := b.Follows(from...)
			if !within(all, got) {
				t.Fatalf("of %v with facts behind %v: %v, but ahead of them %v", from, facts, got, all)
			}
			all = got
		}
	}
}

func TestRefusedFactsTakeNothingAway(t *testing.T) {
	b := bookOf(t, fact([]int{1}, []int{2}))
	b.Note(fact([]int{1}, nil))
	b.Note(fact([]int{2}, nil))
	note(t, b, fact([]int{1}, []int{2}))
	want(t, b, several(1), 1, 2)
	want(t, b, several(2), 2)
}

// factsOf makes facts of bytes: of each one how many Ins and Outs, then these.
func factsOf(bytes []byte) []api.Fact {
	var facts []api.Fact
	next := func() int {
		if len(bytes) == 0 {
			return 0
		}
		n := int(bytes[0])
		bytes = bytes[1:]
		return n
	}
	for len(bytes) > 0 {
		var f api.Fact
		counts := next()
		for range counts & 3 {
			f.Ins = append(f.Ins, one(next()&15))
		}
		for range counts >> 2 & 3 {
			f.Outs = append(f.Outs, one(next()&15))
		}
		facts = append(facts, f)
	}
	return facts
}

func FuzzFollows(f *testing.F) {
	f.Add([]byte{5, 1, 2, 6, 2, 3, 4}, []byte{1, 3})
	f.Add([]byte{4, 1, 1, 1}, []byte{})
	f.Add([]byte{6, 1, 1, 2, 5, 2, 1}, []byte{1, 1})
	f.Fuzz(func(t *testing.T, bytes, secrets []byte) {
		b := book.New()
		var taken, unlike []api.Fact
		for _, x := range factsOf(bytes) {
			e := b.Note(x)
			if (e == api.ErrArg) != (len(x.Outs) == 0) || e != api.ErrArg && e != api.OK {
				t.Fatalf("Note(%v) = %d", x, e)
			}
			same := func(y api.Fact) bool { return slices.Equal(x.Ins, y.Ins) && slices.Equal(x.Outs, y.Outs) }
			if e == api.OK && !slices.ContainsFunc(unlike, same) {
				unlike = append(unlike, x)
			}
			if e == api.OK {
				taken = append(taken, x)
			}
		}
		if b.Len() != len(unlike) {
			t.Fatalf("Len = %d, want %d", b.Len(), len(unlike))
		}
		var from []api.Hash
		for _, n := range secrets {
			from = append(from, one(int(n&15)))
		}
		if got, all := b.Follows(from...), plainly(taken, from); !slices.Equal(got, all) {
			t.Errorf("of %v with %v: %v, want %v", from, taken, got, all)
		}
	})
}
