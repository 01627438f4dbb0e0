package ppr_test

import (
	"crypto/sha256"
	"encoding/binary"
	"math"
	"math/rand"
	"slices"
	"strings"
	"testing"

	"bevy/api"
	"bevy/book"
	"bevy/ppr"
	"bevy/sha"
)

func text(h api.Hash) string { return string(h[:]) }

func fact(in api.Hash, outs ...api.Hash) api.Fact {
	return api.Fact{Ins: []api.Hash{in}, Outs: outs}
}

// wantFacts demands that the book has these facts and no other: noted once more, they are no more.
func wantFacts(t *testing.T, b *book.Book, facts ...api.Fact) {
	t.Helper()
	if b.Len() != len(facts) {
		t.Errorf("the book has %d facts, want %d", b.Len(), len(facts))
	}
	before := b.Len()
	for _, f := range facts {
		b.Note(f)
		if b.Len() != before {
			t.Errorf("the book hasn't the fact %x", f)
			before = b.Len()
		}
	}
}

// The chapter's words, told once more by the standard library alone.

func digest(label string, h api.Hash) api.Hash {
	return sha256.Sum256([]byte(label + text(h)))
}

// seedAt is the seed at a place of a level.
func seedAt(root api.Hash, level, place int) api.Hash {
	for l := level - 1; l >= 0; l-- {
		root = digest([]string{"left", "right"}[place>>l&1], root)
	}
	return root
}

func keyAt(root api.Hash, bits, place int) api.Hash {
	return digest("key", seedAt(root, bits, place))
}

// stand is where a seed stands.
type stand struct{ level, place int }

// model is a row told by what is gone: what it has is each seed below which nothing is gone, and no seed below that.
type model struct {
	root api.Hash
	bits int
	gone []int // rising
}

func (m *model) isGone(place int) bool {
	_, ok := slices.BinarySearch(m.gone, place)
	return ok
}

func (m *model) take(place int) {
	at, ok := slices.BinarySearch(m.gone, place)
	if !ok {
		m.gone = slices.Insert(m.gone, at, place)
	}
}

// has answers where the seeds that it has stand, in the order of their places.
func (m *model) has() []stand { return m.under(stand{}, m.gone) }

func (m *model) under(s stand, gone []int) []stand {
	if len(gone) == 0 {
		return []stand{s}
	}
	if s.level == m.bits {
		return nil
	}
	middle, _ := slices.BinarySearch(gone, (2*s.place+1)<<(m.bits-s.level-1))
	left := m.under(stand{s.level + 1, 2 * s.place}, gone[:middle])
	return append(left, m.under(stand{s.level + 1, 2*s.place + 1}, gone[middle:])...)
}

// over is the seed that it has at a place or above it.
func (m *model) over(place int) stand {
	for _, s := range m.has() {
		if place>>(m.bits-s.level) == s.place {
			return s
		}
	}
	return stand{-1, -1}
}

// facts are those that looking at a place notes.
func (m *model) facts(place int) []api.Fact {
	var facts []api.Fact
	for l := m.over(place).level; l < m.bits; l++ {
		above := seedAt(m.root, l, place>>(m.bits-l))
		facts = append(facts, fact(above, digest("left", above), digest("right", above)))
	}
	return append(facts, fact(seedAt(m.root, m.bits, place), keyAt(m.root, m.bits, place)))
}

// num is a number as chapter 1 writes it, in size bytes.
func num(size, n int) string {
	marks := map[int]uint64{1: 0, 2: 1 << 14, 4: 2 << 30, 8: 3 << 62}
	return string(binary.BigEndian.AppendUint64(nil, marks[size]|uint64(n)))[8-size:]
}

// short is a number in its one form.
func short(n int) string {
	for _, size := range []int{1, 2, 4} {
		if n < 1<<(8*size-2) {
			return num(size, n)
		}
	}
	return num(8, n)
}

func packed(s stand, h api.Hash) string { return short(s.level) + short(s.place) + text(h) }

func (m *model) pack() string {
	has := m.has()
	parts := []string{short(len(has))}
	for _, s := range has {
		parts = append(parts, packed(s, seedAt(m.root, s.level, s.place)))
	}
	return strings.Join(parts, "")
}

// pair is a row and its model.
func pair(t *testing.T, bits int) (*ppr.Row, *model) {
	t.Helper()
	m := &model{root: sha.Sum("root"), bits: bits}
	r, e := ppr.New(m.root, bits)
	if r == nil || e != api.OK {
		t.Fatalf("New(.., %d) = %v, %d", bits, r, e)
	}
	return r, m
}

// wantRow demands that a row has what its model has.
func wantRow(t *testing.T, r *ppr.Row, m *model) {
	t.Helper()
	var seeds []api.Hash
	for _, s := range m.has() {
		seeds = append(seeds, seedAt(m.root, s.level, s.place))
	}
	if got := r.Seeds(); !slices.Equal(got, seeds) {
		t.Errorf("%d bits, gone %v: Seeds = %x, want %x", m.bits, m.gone, got, seeds)
	}
	if got, want := r.Pack(), m.pack(); got != want {
		t.Errorf("%d bits, gone %v: Pack = %x, want %x", m.bits, m.gone, got, want)
	}
	if r.Bits() != m.bits {
		t.Errorf("Bits = %d, want %d", r.Bits(), m.bits)
	}
}

// wantPlace demands what a row says of a place.
func wantPlace(t *testing.T, r *ppr.Row, m *model, place int) {
	t.Helper()
	want, err := keyAt(m.root, m.bits, place), api.OK
	if m.isGone(place) {
		want, err = api.Hash{}, api.ErrSpent
	}
	if got, e := r.Look(nil, place); got != want || e != err {
		t.Errorf("%d bits, gone %v: Look(%d) = %x, %d, want %x, %d", m.bits, m.gone, place, got, e, want, err)
	}
	if got := r.Gone(place); got != m.isGone(place) {
		t.Errorf("%d bits, gone %v: Gone(%d) = %t", m.bits, m.gone, place, got)
	}
}

// wantTake takes a key out of both.
func wantTake(t *testing.T, r *ppr.Row, m *model, place int) {
	t.Helper()
	want, err := keyAt(m.root, m.bits, place), api.OK
	if m.isGone(place) {
		want, err = api.Hash{}, api.ErrSpent
	}
	if got, e := r.Take(nil, place); got != want || e != err {
		t.Errorf("%d bits, gone %v: Take(%d) = %x, %d, want %x, %d", m.bits, m.gone, place, got, e, want, err)
	}
	m.take(place)
}

// wantNot demands that there is no such place.
func wantNot(t *testing.T, r *ppr.Row, place int) {
	t.Helper()
	b := book.New()
	if h, e := r.Look(b, place); h != (api.Hash{}) || e != api.ErrArg {
		t.Errorf("Look(%d) = %x, %d", place, h, e)
	}
	if h, e := r.Take(b, place); h != (api.Hash{}) || e != api.ErrArg {
		t.Errorf("Take(%d) = %x, %d", place, h, e)
	}
	if !r.Gone(place) {
		t.Errorf("Gone(%d) is false", place)
	}
	wantFacts(t, b)
}

// somePlaces are some of a row's places, the edges among them, rising.
func somePlaces(bits int) []int {
	last := 1<<bits - 1
	list := []int{0, 1, last / 2, last/2 + 1, last - 1, last}
	for i := range 20 {
		list = append(list, i*0x9e3779b1&last)
	}
	slices.Sort(list)
	return slices.Compact(list)
}

// The chapter's example.

func TestExample(t *testing.T) {
	r, m := pair(t, 2)
	left := sha.Sum("left", text(m.root))
	if h, e := r.Take(nil, 1); h != sha.Sum("key", text(sha.Sum("right", text(left)))) || e != api.OK {
		t.Errorf("Take(1) = %x, %d", h, e)
	}
	want := []api.Hash{sha.Sum("left", text(left)), sha.Sum("right", text(m.root))}
	if got := r.Seeds(); !slices.Equal(got, want) {
		t.Errorf("Seeds = %x, want %x", got, want)
	}
	if h, e := r.Take(nil, 1); h != (api.Hash{}) || e != api.ErrSpent {
		t.Errorf("Take(1) again = %x, %d", h, e)
	}
	if got, want := r.Pack(), "\x02"+"\x02\x00"+text(want[0])+"\x01\x01"+text(want[1]); got != want {
		t.Errorf("Pack = %x, want %x", got, want)
	}
}

// Promise 6.1: New, Bits.

func TestNewAtItsEdges(t *testing.T) {
	for bits := 1; bits <= 32; bits++ {
		r, m := pair(t, bits)
		if r.Bits() != bits {
			t.Errorf("Bits = %d, want %d", r.Bits(), bits)
		}
		if got := r.Seeds(); !slices.Equal(got, []api.Hash{m.root}) {
			t.Errorf("%d bits: Seeds = %x", bits, got)
		}
	}
	for _, bits := range []int{0, 33, 34, 63, 64, 65, -1, -32, 1 << 32, 1<<32 + 1, math.MinInt, math.MaxInt} {
		if r, e := ppr.New(sha.Sum("root"), bits); r != nil || e != api.ErrArg {
			t.Errorf("New(.., %d) = %v, %d", bits, r, e)
		}
	}
}

func TestNewOfAnyRoot(t *testing.T) {
	for _, root := range []api.Hash{{}, {0: 1}, {31: 1}, sha.Sum("a")} {
		r, e := ppr.New(root, 3)
		if e != api.OK {
			t.Fatalf("New(%x) = %d", root, e)
		}
		m := &model{root: root, bits: 3}
		for place := range 8 {
			wantPlace(t, r, m, place)
		}
		wantRow(t, r, m)
	}
}

func TestNilRow(t *testing.T) {
	var r *ppr.Row
	if r.Bits() != 0 {
		t.Errorf("Bits = %d", r.Bits())
	}
	for _, place := range []int{0, 1, -1, math.MinInt, math.MaxInt} {
		wantNot(t, r, place)
	}
	if len(r.Seeds()) != 0 {
		t.Errorf("Seeds = %x", r.Seeds())
	}
	if r.Copy() != nil {
		t.Errorf("Copy isn't nil")
	}
	if r.Pack() != "" {
		t.Errorf("Pack = %x", r.Pack())
	}
}

// Promise 6.2: Look, Take, Gone.

func TestKeysOfSmallRows(t *testing.T) {
	for bits := 1; bits <= 7; bits++ {
		r, m := pair(t, bits)
		for place := range 1 << bits {
			wantPlace(t, r, m, place)
		}
		wantRow(t, r, m)
	}
}

func TestKeysOfGreatRows(t *testing.T) {
	for _, bits := range []int{8, 15, 16, 17, 31, 32} {
		r, m := pair(t, bits)
		places := somePlaces(bits)
		for _, place := range places {
			wantPlace(t, r, m, place)
		}
		for _, place := range places {
			wantTake(t, r, m, place)
			wantRow(t, r, m)
			for _, other := range places {
				wantPlace(t, r, m, other)
			}
		}
	}
}

func TestPlacesThatAreNot(t *testing.T) {
	for _, bits := range []int{1, 2, 8, 31, 32} {
		r, m := pair(t, bits)
		for range 2 {
			for _, place := range []int{-1, -2, 1 << bits, 1<<bits + 1, 1 << 33, math.MinInt, math.MinInt + 1, math.MaxInt} {
				wantNot(t, r, place)
			}
			wantRow(t, r, m)
			wantTake(t, r, m, 1<<bits-1)
			wantTake(t, r, m, 0)
		}
	}
}

func TestLookChangesNothing(t *testing.T) {
	r, m := pair(t, 4)
	for _, gone := range []int{5, 0, 15, 8} {
		for place := range 16 {
			wantPlace(t, r, m, place)
			wantPlace(t, r, m, place)
			wantRow(t, r, m)
		}
		wantTake(t, r, m, gone)
	}
}

func TestLookNotesTheWayFromTheSeedDown(t *testing.T) {
	r, m := pair(t, 4)
	for _, gone := range []int{6, 7, 3, 12, 0} {
		for place := range 16 {
			if m.isGone(place) {
				continue
			}
			b := book.New()
			if h, e := r.Look(b, place); h != keyAt(m.root, 4, place) || e != api.OK {
				t.Errorf("Look(%d) = %x, %d", place, h, e)
			}
			wantFacts(t, b, m.facts(place)...)
			r.Look(b, place)
			wantFacts(t, b, m.facts(place)...)
			wantRow(t, r, m)
		}
		wantTake(t, r, m, gone)
	}
}

func TestTakeNotesTheSame(t *testing.T) {
	for _, bits := range []int{1, 3, 4, 32} {
		r, m := pair(t, bits)
		for _, place := range somePlaces(bits) {
			b, want := book.New(), m.facts(place)
			if h, e := r.Take(b, place); h != keyAt(m.root, bits, place) || e != api.OK {
				t.Errorf("Take(%d) = %x, %d", place, h, e)
			}
			m.take(place)
			wantFacts(t, b, want...)
			wantRow(t, r, m)
		}
	}
}

func TestGonePlacesNoteNothing(t *testing.T) {
	r, m := pair(t, 3)
	for _, place := range []int{2, 7, 3} {
		wantTake(t, r, m, place)
		b := book.New()
		if h, e := r.Look(b, place); h != (api.Hash{}) || e != api.ErrSpent {
			t.Errorf("Look(%d) = %x, %d", place, h, e)
		}
		if h, e := r.Take(b, place); h != (api.Hash{}) || e != api.ErrSpent {
			t.Errorf("Take(%d) = %x, %d", place, h, e)
		}
		wantFacts(t, b)
		wantRow(t, r, m)
	}
}

func TestAFullBookStopsNothing(t *testing.T) {
	if testing.Short() {
		t.Skip("it fills a book")
	}
	b := book.New()
	var h api.Hash
	for i := range api.MaxBook {
		binary.BigEndian.PutUint32(h[:], uint32(i))
		b.Note(fact(h, h))
	}
	r, m := pair(t, 2)
	if h, e := r.Look(b, 2); h != keyAt(m.root, 2, 2) || e != api.OK {
		t.Errorf("Look = %x, %d", h, e)
	}
	if h, e := r.Take(b, 2); h != keyAt(m.root, 2, 2) || e != api.OK {
		t.Errorf("Take = %x, %d", h, e)
	}
	m.take(2)
	wantRow(t, r, m)
	if b.Len() != api.MaxBook || b.Knows(keyAt(m.root, 2, 2), m.root) {
		t.Errorf("the book has %d facts", b.Len())
	}
}

// inAllOrders calls do with each order of the numbers below n.
func inAllOrders(n int, do func(order []int)) {
	order := make([]int, 0, n)
	var next func()
	next = func() {
		if len(order) == n {
			do(order)
			return
		}
		for i := range n {
			if !slices.Contains(order, i) {
				order = append(order, i)
				next()
				order = order[:len(order)-1]
			}
		}
	}
	next()
}

func TestTakeInAllOrders(t *testing.T) {
	for _, bits := range []int{1, 2} {
		inAllOrders(1<<bits, func(order []int) {
			r, m := pair(t, bits)
			for _, place := range order {
				wantTake(t, r, m, place)
				wantRow(t, r, m)
				for other := range 1 << bits {
					wantPlace(t, r, m, other)
				}
			}
			if len(r.Seeds()) != 0 || r.Pack() != "\x00" {
				t.Errorf("something is left of %v: %x", order, r.Pack())
			}
		})
	}
}

func TestTakeInSomeOrders(t *testing.T) {
	random := rand.New(rand.NewSource(6))
	for bits := 3; bits <= 8; bits++ {
		falling := random.Perm(1 << bits)
		slices.SortFunc(falling, func(a, b int) int { return b - a })
		rising := slices.Clone(falling)
		slices.Reverse(rising)
		orders := [][]int{rising, falling}
		for range 10 {
			orders = append(orders, random.Perm(1<<bits))
		}
		for _, order := range orders {
			takeAll(t, bits, order)
		}
	}
}

// takeAll takes all keys of a row in an order, each once, and once more in vain.
func takeAll(t *testing.T, bits int, order []int) {
	t.Helper()
	r, m := pair(t, bits)
	for _, place := range order {
		wantTake(t, r, m, place)
		wantRow(t, r, m)
		wantTake(t, r, m, place)
		wantPlace(t, r, m, order[0])
		wantPlace(t, r, m, order[len(order)-1])
	}
	for place := range 1 << bits {
		wantTake(t, r, m, place)
	}
	if len(r.Seeds()) != 0 {
		t.Errorf("%d seeds are left", len(r.Seeds()))
	}
}

// Promise 6.3: Seeds, Copy.

func TestSeedsAreNewMemory(t *testing.T) {
	r, m := pair(t, 3)
	for _, place := range []int{3, 4, 0} {
		wantTake(t, r, m, place)
		one, two := r.Seeds(), r.Seeds()
		if cap(one) != len(one) {
			t.Errorf("%d seeds have room for %d", len(one), cap(one))
		}
		for i := range one {
			one[i] = api.Hash{}
		}
		if slices.Equal(one, two) {
			t.Errorf("two answers share memory")
		}
		wantRow(t, r, m)
	}
}

func TestCopyKnowsNothingOfItsRow(t *testing.T) {
	for _, ahead := range [][]int{nil, {0}, {5}, {7}, {0, 1}, {6, 7}, {0, 5, 6}, {7, 0, 3, 4}, {7, 6, 5, 4, 3, 2, 1}, {0, 1, 2, 3, 4, 5, 6, 7}} {
		for one := range 8 {
			for two := range 8 {
				copiesApart(t, ahead, one, two)
			}
		}
	}
}

// copiesApart takes one place out of a row, another one out of its copy, and demands that each is gone there alone.
func copiesApart(t *testing.T, ahead []int, one, two int) {
	t.Helper()
	r, m := pair(t, 3)
	for _, place := range ahead {
		wantTake(t, r, m, place)
	}
	c, n := r.Copy(), &model{root: m.root, bits: 3, gone: slices.Clone(m.gone)}
	d := c.Copy()
	wantRow(t, c, n)
	wantTake(t, r, m, one)
	wantRow(t, c, n)
	wantTake(t, c, n, two)
	wantRow(t, r, m)
	wantRow(t, c, n)
	wantTake(t, r, m, two)
	wantTake(t, r, m, 3)
	wantTake(t, c, n, one)
	wantTake(t, c, n, 4)
	wantRow(t, r, m)
	wantRow(t, c, n)
	for place := range 8 {
		wantPlace(t, r, m, place)
		wantPlace(t, c, n, place)
	}
	first := &model{root: m.root, bits: 3}
	for _, place := range ahead {
		first.take(place)
	}
	wantRow(t, d, first)
}

func TestCopiesOfCopies(t *testing.T) {
	random := rand.New(rand.NewSource(7))
	r, m := pair(t, 6)
	rows, models := []*ppr.Row{r}, []*model{m}
	for range 400 {
		i := random.Intn(len(rows))
		if random.Intn(4) == 0 && len(rows) < 12 {
			rows = append(rows, rows[i].Copy())
			models = append(models, &model{root: m.root, bits: 6, gone: slices.Clone(models[i].gone)})
			continue
		}
		wantTake(t, rows[i], models[i], random.Intn(64))
		for j := range rows {
			wantRow(t, rows[j], models[j])
		}
	}
}

// Promise 6.4: Pack, Unpack.

func TestPackInBytes(t *testing.T) {
	r, m := pair(t, 1)
	if got, want := r.Pack(), "\x01\x00\x00"+text(m.root); got != want {
		t.Errorf("Pack = %x, want %x", got, want)
	}
	r.Take(nil, 0)
	if got, want := r.Pack(), "\x01\x01\x01"+text(sha.Sum("right", text(m.root))); got != want {
		t.Errorf("Pack = %x, want %x", got, want)
	}
	r.Take(nil, 1)
	if got := r.Pack(); got != "\x00" {
		t.Errorf("Pack of nothing = %x", got)
	}
	first, m := pair(t, 32)
	wantTake(t, first, m, 0)
	seeds := first.Seeds()
	if got, want := first.Pack(), "\x20\x20\x01"+text(seeds[0])+"\x1f\x01"+text(seeds[1]); !strings.HasPrefix(got, want) {
		t.Errorf("Pack = %x, want %x ahead", got, want)
	}
	// The places beside the way to the last one are numbers of one to eight bytes.
	last, m := pair(t, 32)
	wantTake(t, last, m, 1<<32-1)
	wantRow(t, last, m)
	seeds = last.Seeds()
	if got, want := last.Pack(), "\x20\xc0\x00\x00\x00\xff\xff\xff\xfe"+text(seeds[31]); !strings.HasSuffix(got, want) {
		t.Errorf("Pack = %x, want %x behind", got, want)
	}
}

func TestUnpackThereAndBack(t *testing.T) {
	for _, bits := range []int{1, 2, 5, 8, 31, 32} {
		r, m := pair(t, bits)
		for _, place := range somePlaces(bits) {
			again, e := ppr.Unpack(r.Pack(), bits)
			if e != api.OK {
				t.Fatalf("Unpack = %d", e)
			}
			wantRow(t, again, m)
			for _, other := range somePlaces(bits) {
				wantPlace(t, again, m, other)
			}
			wantTake(t, r, m, place)
		}
	}
}

func TestUnpackedRowGoesOnAlone(t *testing.T) {
	r, m := pair(t, 4)
	wantTake(t, r, m, 6)
	again, e := ppr.Unpack(r.Pack(), 4)
	if e != api.OK {
		t.Fatalf("Unpack = %d", e)
	}
	n := &model{root: m.root, bits: 4, gone: slices.Clone(m.gone)}
	wantTake(t, again, n, 7)
	wantTake(t, r, m, 15)
	wantRow(t, r, m)
	wantRow(t, again, n)
}

func wantUnpack(t *testing.T, what, s string, bits int, want api.Errno) {
	t.Helper()
	r, e := ppr.Unpack(s, bits)
	if e != want || (r == nil) != (want != api.OK) {
		t.Errorf("Unpack of %s = %v, %d, want %d", what, r != nil, e, want)
	}
	if r != nil && r.Pack() != s {
		t.Errorf("%s isn't packed as it was: %x, want %x", what, r.Pack(), s)
	}
}

func TestUnpackCutOff(t *testing.T) {
	for _, bits := range []int{2, 8, 32} {
		r, _ := pair(t, bits)
		r.Take(nil, 1)
		r.Take(nil, 1<<bits-1)
		whole := r.Pack()
		for size := range len(whole) {
			wantUnpack(t, "bytes that are cut off", whole[:size], bits, api.ErrShort)
		}
		wantUnpack(t, "whole bytes", whole, bits, api.OK)
		for _, more := range []string{"\x00", "x", whole} {
			wantUnpack(t, "bytes and more", whole+more, bits, api.ErrTail)
		}
	}
	wantUnpack(t, "no bytes", "", 3, api.ErrShort)
	wantUnpack(t, "no seeds", "\x00", 3, api.OK)
	wantUnpack(t, "no seeds and more", "\x00\x00", 3, api.ErrTail)
}

func TestUnpackBits(t *testing.T) {
	r, m := pair(t, 3)
	r.Take(nil, 4)
	m.take(4)
	for _, bits := range []int{0, 33, -1, 64, math.MinInt, math.MaxInt} {
		for _, s := range []string{r.Pack(), "", "\x00", "\x00x", num(4, 65537), "\x01\x3f"} {
			wantUnpack(t, "bits that may not be", s, bits, api.ErrArg)
		}
	}
	wantUnpack(t, "a row of 3 bits in one of 1", r.Pack(), 1, api.ErrForm)
	wantUnpack(t, "a row of 3 bits in one of 2", r.Pack(), 2, api.ErrForm)
	for _, bits := range []int{4, 5, 31, 32} {
		wantUnpack(t, "a row of 3 bits in a greater one", r.Pack(), bits, api.OK)
	}
	for bits := 1; bits <= 32; bits++ {
		fresh, _ := pair(t, bits)
		wantUnpack(t, "a root", fresh.Pack(), bits, api.OK)
	}
	// In a row of more bits the seeds stand where they stood, and what was gone are all places below that.
	great, e := ppr.Unpack(r.Pack(), 5)
	if e != api.OK {
		t.Fatalf("Unpack = %d", e)
	}
	for place := range 32 {
		if great.Gone(place) != (place/4 == 4) {
			t.Errorf("Gone(%d) = %t", place, great.Gone(place))
		}
		if place/4 == 4 {
			continue
		}
		if h, e := great.Look(nil, place); h != keyAt(m.root, 5, place) || e != api.OK {
			t.Errorf("Look(%d) = %x, %d", place, h, e)
		}
	}
}

func TestUnpackLevelsAndPlaces(t *testing.T) {
	h := sha.Sum("h")
	for _, bits := range []int{1, 2, 7, 31, 32} {
		for level := range bits + 1 {
			last := 1<<level - 1
			wantUnpack(t, "the first of a level", "\x01"+packed(stand{level, 0}, h), bits, api.OK)
			wantUnpack(t, "the last of a level", "\x01"+packed(stand{level, last}, h), bits, api.OK)
			for _, place := range []int{last + 1, last + 2, 1 << 33, 1<<62 - 1} {
				wantUnpack(t, "a place that isn't there", "\x01"+packed(stand{level, place}, h), bits, api.ErrForm)
				wantUnpack(t, "a place that isn't there, cut off", "\x01"+short(level)+short(place), bits, api.ErrForm)
				wantUnpack(t, "a place that isn't there, and more", "\x01"+packed(stand{level, place}, h)+"x", bits, api.ErrForm)
			}
		}
		for _, level := range []int{bits + 1, bits + 2, 33, 63, 64, 65, 1 << 20, 1<<62 - 1} {
			wantUnpack(t, "a level above bits", "\x01"+packed(stand{level, 0}, h), bits, api.ErrForm)
			wantUnpack(t, "a level above bits, cut off", "\x01"+short(level), bits, api.ErrForm)
			wantUnpack(t, "a level above bits behind another seed", "\x02"+packed(stand{bits, 0}, h)+short(level), bits, api.ErrForm)
		}
	}
}

func TestUnpackNumbersNotInTheirForm(t *testing.T) {
	h := text(sha.Sum("h"))
	for _, size := range []int{2, 4, 8} {
		wantUnpack(t, "a number of seeds", num(size, 0), 3, api.ErrForm)
		wantUnpack(t, "a number of seeds", num(size, 1)+"\x00\x00"+h, 3, api.ErrForm)
		wantUnpack(t, "a level", "\x01"+num(size, 1)+"\x00"+h, 3, api.ErrForm)
		wantUnpack(t, "a place", "\x01\x01"+num(size, 1)+h, 3, api.ErrForm)
	}
}

// ends answers where a seed's places begin and end in a row.
func (s stand) ends(bits int) (start, end int) {
	return s.place << (bits - s.level), (s.place + 1) << (bits - s.level)
}

func TestUnpackTwoSeeds(t *testing.T) {
	const bits = 3
	var all []stand
	for level := range bits + 1 {
		for place := range 1 << level {
			all = append(all, stand{level, place})
		}
	}
	for _, one := range all {
		for _, two := range all {
			_, end := one.ends(bits)
			start, _ := two.ends(bits)
			want := api.OK
			if start < end {
				want = api.ErrForm
			}
			s := "\x02" + packed(one, sha.Sum("one")) + packed(two, sha.Sum("two"))
			wantUnpack(t, "two seeds", s, bits, want)
			if want == api.ErrForm {
				wantUnpack(t, "two seeds, cut off", s[:len(s)-32], bits, api.ErrForm)
			}
		}
	}
}

func TestUnpackSomeSeeds(t *testing.T) {
	root, h := stand{0, 0}, sha.Sum("h")
	for _, c := range []struct {
		what  string
		bits  int
		seeds []stand
		want  api.Errno
	}{
		{"both below the root", 3, []stand{{1, 0}, {1, 1}}, api.OK},
		{"all leaves", 2, []stand{{2, 0}, {2, 1}, {2, 2}, {2, 3}}, api.OK},
		{"the last two, turned", 2, []stand{{2, 0}, {2, 1}, {2, 3}, {2, 2}}, api.ErrForm},
		{"the first again", 2, []stand{{2, 0}, {2, 3}, {2, 0}}, api.ErrForm},
		{"the root and one below", 3, []stand{root, {3, 7}}, api.ErrForm},
		{"one below and the root", 3, []stand{{3, 7}, root}, api.ErrForm},
		{"the root twice", 3, []stand{root, root}, api.ErrForm},
		{"one above and what stands right behind", 3, []stand{{1, 0}, {3, 4}, {3, 5}, {2, 3}}, api.OK},
		{"one above and its last", 3, []stand{{1, 0}, {3, 3}}, api.ErrForm},
		{"the ends of a great row", 32, []stand{{32, 0}, {32, 1<<32 - 1}}, api.OK},
		{"the halves of a great row", 32, []stand{{1, 0}, {32, 1 << 31}}, api.OK},
		{"a half of a great row and its last", 32, []stand{{1, 0}, {32, 1<<31 - 1}}, api.ErrForm},
	} {
		s := short(len(c.seeds))
		for _, at := range c.seeds {
			s += packed(at, h)
		}
		wantUnpack(t, c.what, s, c.bits, c.want)
	}
}

// leaves are a number of seeds at the places from first on.
func leaves(bits, first, n int) string {
	parts := make([]string, 0, n)
	for i := range n {
		parts = append(parts, packed(stand{bits, first + i}, sha.Sum(short(i))))
	}
	return strings.Join(parts, "")
}

func TestUnpackManySeeds(t *testing.T) {
	wantUnpack(t, "65536 seeds", short(65536)+leaves(16, 0, 65536), 16, api.OK)
	wantUnpack(t, "65536 seeds of a great row", short(65536)+leaves(32, 1<<32-65536, 65536), 32, api.OK)
	wantUnpack(t, "65537 seeds", short(65537)+leaves(17, 0, 65537), 17, api.ErrLong)
	for _, n := range []int{65537, 65538, 1 << 20, 1 << 32, 1<<62 - 1} {
		wantUnpack(t, "too many seeds", short(n), 32, api.ErrLong)
		wantUnpack(t, "too many seeds, and more", short(n)+"\x3f", 32, api.ErrLong)
	}
	wantUnpack(t, "65536 seeds that aren't there", short(65536), 32, api.ErrShort)
}

func TestRowOfMoreSeedsThanAreUnpacked(t *testing.T) {
	h := sha.Sum("h")
	r, e := ppr.Unpack(short(65506)+packed(stand{1, 0}, h)+leaves(32, 1<<31, 65505), 32)
	if e != api.OK {
		t.Fatalf("Unpack = %d", e)
	}
	r.Take(nil, 1<<31-1)
	if len(r.Seeds()) != 65536 {
		t.Fatalf("%d seeds", len(r.Seeds()))
	}
	wantUnpack(t, "65536 seeds behind a taking", r.Pack(), 32, api.OK)
	r.Take(nil, 2)
	if len(r.Seeds()) <= 65536 {
		t.Fatalf("%d seeds", len(r.Seeds()))
	}
	wantUnpack(t, "more seeds behind another", r.Pack(), 32, api.ErrLong)
}

// Promise 6.5: what holds.

func TestTakingChangesNoOtherKey(t *testing.T) {
	random := rand.New(rand.NewSource(8))
	r, m := pair(t, 7)
	for _, place := range random.Perm(128) {
		wantTake(t, r, m, place)
		for other := range 128 {
			wantPlace(t, r, m, other)
		}
	}
}

func TestNoTakenKeyFollows(t *testing.T) {
	const bits = 5
	random := rand.New(rand.NewSource(9))
	for range 4 {
		r, m := pair(t, bits)
		b := book.New()
		for place := range 1 << bits {
			r.Look(b, place)
		}
		for _, place := range random.Perm(1 << bits) {
			r.Take(b, place)
			m.take(place)
			wantFollows(t, b, r, m)
		}
	}
}

// wantFollows demands that of a row's seeds all its keys follow, and no other one, and no seed above one that is gone.
func wantFollows(t *testing.T, b *book.Book, r *ppr.Row, m *model) {
	t.Helper()
	follows := b.Follows(r.Seeds()...)
	for place := range 1 << m.bits {
		got := slices.Contains(follows, keyAt(m.root, m.bits, place))
		if got == m.isGone(place) {
			t.Errorf("gone %v: that the key at %d follows is %t", m.gone, place, got)
		}
		for level := range m.bits + 1 {
			if m.isGone(place) && slices.Contains(follows, seedAt(m.root, level, place>>(m.bits-level))) {
				t.Errorf("gone %v: the seed above %d on level %d follows", m.gone, place, level)
			}
		}
	}
}

func TestKeysFollowOnceTheyWereLookedAt(t *testing.T) {
	r, m := pair(t, 4)
	b := book.New()
	key, _ := r.Take(b, 9)
	if !b.Knows(key, m.root) || b.Knows(m.root, key) || b.Knows(key, r.Seeds()...) {
		t.Errorf("the book knows otherwise of the key that was taken")
	}
	if b.Knows(keyAt(m.root, 4, 8), m.root) {
		t.Errorf("a key follows that nobody looked at")
	}
	other, _ := r.Look(b, 8)
	if !b.Knows(other, r.Seeds()...) || !b.Knows(other, m.root) || b.Knows(key, append(r.Seeds(), other)...) {
		t.Errorf("the book knows otherwise of the key beside it")
	}
}

// FuzzUnpack demands that what is unpacked is packed as it was, and that its keys can be taken.
func FuzzUnpack(f *testing.F) {
	r, _ := ppr.New(sha.Sum("root"), 5)
	for _, place := range []int{3, 30, 31, 0} {
		f.Add(r.Pack(), 5, place)
		r.Take(nil, place)
	}
	f.Add("\x00", 1, 0)
	f.Add("\x02"+packed(stand{32, 0}, api.Hash{})+packed(stand{1, 1}, api.Hash{}), 32, 1<<31)
	f.Fuzz(func(t *testing.T, s string, bits, place int) {
		r, e := ppr.Unpack(s, bits)
		if e != api.OK {
			if r != nil {
				t.Fatalf("a row beside error %d", e)
			}
			return
		}
		if r.Bits() != bits || r.Pack() != s || r.Copy().Pack() != s {
			t.Fatalf("Pack = %x, want %x", r.Pack(), s)
		}
		gone, before := r.Gone(place), len(r.Seeds())
		look, e := r.Look(nil, place)
		if (e != api.OK) != gone {
			t.Fatalf("Gone(%d) = %t, Look = %d", place, gone, e)
		}
		taken, err := r.Take(nil, place)
		if taken != look || err != e || !r.Gone(place) {
			t.Fatalf("Take(%d) = %x, %d, want %x, %d", place, taken, err, look, e)
		}
		after := r.Pack()
		if gone && after != s {
			t.Fatalf("a refused Take changed the row")
		}
		if len(r.Seeds()) < before-1 {
			t.Fatalf("%d seeds became %d", before, len(r.Seeds()))
		}
		if _, e := ppr.Unpack(after, bits); e != api.OK && len(r.Seeds()) <= 65536 {
			t.Fatalf("what is left isn't unpacked: %d", e)
		}
	})
}

// FuzzTake holds rows against the model: each byte takes a key, of the row or of its copy.
func FuzzTake(f *testing.F) {
	f.Add("\x01\x02\x03", 2)
	f.Add("\x00\x80\x7f\xff\x01", 7)
	f.Add("ab ba abba", 32)
	f.Fuzz(func(t *testing.T, s string, bits int) {
		if bits < 1 || bits > 32 || len(s) > 50 {
			return
		}
		r, m := pair(t, bits)
		c, n := r.Copy(), &model{root: m.root, bits: bits}
		for i := range len(s) {
			place := int(s[i]&0x7f) * 0x2040811 & (1<<bits - 1)
			if s[i] < 0x80 {
				wantTake(t, r, m, place)
			} else {
				wantTake(t, c, n, place)
			}
			wantRow(t, r, m)
			wantRow(t, c, n)
		}
	})
}
