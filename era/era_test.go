package era_test

import (
	"encoding/binary"
	"fmt"
	"math"
	"math/rand"
	"slices"
	"strings"
	"testing"

	"bevy/api"
	"bevy/book"
	"bevy/era"
	"bevy/ppr"
	"bevy/sha"
	"bevy/tree"
)

// noNumbers are those that can't be written.
func noNumbers() []int {
	return []int{-1, -2, math.MinInt32, math.MinInt, math.MinInt + 1, api.MaxNum + 1, api.MaxNum + 2, math.MaxInt}
}

// noNames are numbers of no member of the mixedTree.
func noNames() []int {
	return []int{0, 1, 2, 9, 63, 65, 127, 128, 1 << 32, 1<<32 + 4, -1, -4, math.MinInt, math.MaxInt}
}

// The chapter's example.

func TestExample(t *testing.T) {
	e, err := era.Found(nil, rollOf(1), 1, key(1), leafKey(1))
	if err != api.OK || len(e.Tree.Leaves) != 1 || len(e.Apps) != 1 || len(e.Keys) != 1 {
		t.Fatalf("Found: %d", err)
	}
}

// Promise 12.1: Make.

// wantMade demands of an era what the chapter says of Make, and that just that is noted.
func wantMade(t *testing.T, what string, f era.Frame, me int, known []api.Key, n int) {
	t.Helper()
	b, s := book.New(), secrets(n)
	want, facts := madeEra(f, me, known, s)
	f.Tree = lentTree(f.Tree)
	known = roomy(known, api.Key{Node: 777, Priv: key(7)})
	before := whole(f, known)
	e, err := era.Make(b, f, me, known, s)
	again, err2 := era.Make(nil, f, me, known, s)
	if err != api.OK || err2 != api.OK {
		t.Errorf("%s: Make: %d, without a book %d", what, err, err2)
		return
	}
	wantAlike(t, what, e, want)
	wantAlike(t, what+", without a book", again, want)
	wantFacts(t, what, b, facts)
	wantNamed(t, what, b, f.Id, s.Epoch)
	if whole(f, known) != before {
		t.Errorf("%s: Make changes what was handed in", what)
	}
	wantApart(t, what, map[string]any{"f": f, "known": known, "the answer": e, "another answer": again})
}

func TestMake(t *testing.T) {
	f := mixedFrame()
	for _, me := range tree.Names(f.Tree) {
		wantMade(t, fmt.Sprint("the name ", me), f, me, mixedKnown(), 60)
	}
	wantMade(t, "no keys", f, 4, nil, 60)
	wantMade(t, "nothing but noughts", era.Frame{Tree: api.Tree{Leaves: []api.Leaf{{Name: 64}}}}, 64, []api.Key{{}}, -1)
}

func TestMakeOfManyTrees(t *testing.T) {
	r := rand.New(rand.NewSource(12))
	for range 60 {
		group, known := anyGroup(r)
		names := tree.Names(group)
		wantMade(t, fmt.Sprint("the names ", names), era.Frame{Id: key(r.Int()), Tree: group}, names[r.Intn(len(names))], known, r.Int())
	}
}

func TestMakeOfAFullTree(t *testing.T) {
	var group api.Tree
	for name := 64; name > 0; name-- {
		group, _, _ = tree.Add(group, leafOf(name))
	}
	wantMade(t, "64 leaves", era.Frame{Tree: group}, 1, []api.Key{{Node: 126, Priv: leafKey(1)}, {Node: 127}}, 5)
}

func TestMakeAtTheEdgesOfNumbers(t *testing.T) {
	for _, n := range []int{0, 1, 63, 64, 1 << 32, api.MaxNum - 1, api.MaxNum} {
		f := mixedFrame()
		f.Depth = n
		wantMade(t, fmt.Sprint("the depth ", n), f, 4, mixedKnown(), 60)
		for _, at := range []int{0, 1, 62, 63} {
			f = mixedFrame()
			f.Times[at] = n
			wantMade(t, fmt.Sprint("the time ", n, " at ", at), f, 4, mixedKnown(), 60)
		}
	}
}

// wantNotMade demands an error, and that nothing is noted.
func wantNotMade(t *testing.T, what string, want api.Errno, f era.Frame, me int) {
	t.Helper()
	b := book.New()
	if e, err := era.Make(b, f, me, mixedKnown(), secrets(60)); e != nil || err != want {
		t.Errorf("%s: Make = %v, %d, want the error %d", what, e != nil, err, want)
	}
	if _, ok := b.Named("epoch " + sha.Hex(f.Id)); ok || b.Len() != 0 {
		t.Errorf("%s: %d facts are noted, or a name: %t", what, b.Len(), ok)
	}
}

func TestMakeOfWrongArguments(t *testing.T) {
	for what, wrong := range wrongTrees() {
		f := mixedFrame()
		f.Tree = wrong
		wantNotMade(t, what, api.ErrArg, f, 4)
		wantNotMade(t, what+", of nobody", api.ErrArg, f, 0)
	}
	for _, n := range noNumbers() {
		f := mixedFrame()
		f.Depth = n
		wantNotMade(t, fmt.Sprint("the depth ", n), api.ErrArg, f, 4)
		wantNotMade(t, fmt.Sprint("the depth ", n, ", of no member"), api.ErrArg, f, 2)
		for at := range api.MaxName {
			f := mixedFrame()
			f.Times[at] = n
			wantNotMade(t, fmt.Sprint("the time ", n, " at ", at), api.ErrArg, f, 4)
			wantNotMade(t, fmt.Sprint("the time ", n, " at ", at, ", of no member"), api.ErrArg, f, 2)
		}
	}
}

func TestMakeOfNoMember(t *testing.T) {
	for _, me := range noNames() {
		wantNotMade(t, fmt.Sprint("the name ", me), api.ErrOut, mixedFrame(), me)
		wantNotMade(t, fmt.Sprint("the name ", me, " in no tree"), api.ErrOut, era.Frame{}, me)
	}
}

func TestMakeNamesEachEpochByItself(t *testing.T) {
	b := book.New()
	for i := range 40 {
		f := mixedFrame()
		f.Id = key(i % 30) // ten of them come twice: the later secret counts
		era.Make(b, f, 4, nil, secrets(i*100))
	}
	for i := range 30 {
		n := i
		if i < 10 {
			n += 30
		}
		wantNamed(t, fmt.Sprint("the epoch ", i), b, key(i), secrets(n*100).Epoch)
	}
}

// Promise 12.2: Found.

func TestFound(t *testing.T) {
	for _, n := range []int{1, 2, 63, 64, 70} {
		for _, me := range []int{1, 2, 9, 63, 64} {
			if me > n {
				continue
			}
			for _, once := range []api.Hash{{}, key(1), sha.Sum("once")} {
				what := fmt.Sprint("the name ", me, " of ", n)
				b, roll := book.New(), lentRoll(rollOf(n))
				before := whole(roll)
				want, epoch, facts := firstEra(roll, me, once, leafKey(me))
				e, err := era.Found(b, roll, me, once, leafKey(me))
				again, err2 := era.Found(nil, roll, me, once, leafKey(me))
				if err != api.OK || err2 != api.OK {
					t.Fatalf("%s: Found: %d, without a book %d", what, err, err2)
				}
				wantAlike(t, what, e, want)
				wantAlike(t, what+", without a book", again, want)
				wantFacts(t, what, b, facts)
				wantNamed(t, what, b, e.Id, epoch)
				if whole(roll) != before {
					t.Errorf("%s: Found changes the roll", what)
				}
				wantApart(t, what, map[string]any{"roll": roll, "the answer": e, "another answer": again})
			}
		}
	}
}

func TestFoundWithManyCards(t *testing.T) {
	roll := rollOf(3)
	roll[1].Cards = append(roll[1].Cards, make([]api.Card, 9)...)
	want, _, _ := firstEra(roll, 2, key(1), leafKey(2))
	e, err := era.Found(nil, roll, 2, key(1), leafKey(2))
	if err != api.OK {
		t.Fatalf("Found: %d", err)
	}
	wantAlike(t, "many cards", e, want)
}

func TestFoundTellsGroupsApart(t *testing.T) {
	roll, met := rollOf(2), map[api.Hash]string{}
	roll[0].Cards[0] = roll[1].Cards[0] // so that two may have one key
	other := rollOf(2)
	other[1].Verify = key(9)
	for what, found := range map[string]func() (*era.Era, api.Errno){
		"one":                 func() (*era.Era, api.Errno) { return era.Found(nil, roll, 2, key(1), leafKey(2)) },
		"of another name":     func() (*era.Era, api.Errno) { return era.Found(nil, roll, 1, key(1), leafKey(2)) },
		"of another check":    func() (*era.Era, api.Errno) { return era.Found(nil, other, 2, key(1), leafKey(2)) },
		"of another leaf":     func() (*era.Era, api.Errno) { return era.Found(nil, rollOf(2), 1, key(1), leafKey(1)) },
		"by another one time": func() (*era.Era, api.Errno) { return era.Found(nil, roll, 2, key(2), leafKey(2)) },
	} {
		e, err := found()
		if err != api.OK {
			t.Fatalf("%s: Found: %d", what, err)
		}
		if ahead, ok := met[e.Export]; ok {
			t.Errorf("the groups %s and %s have one Export", ahead, what)
		}
		met[e.Export] = what
	}
}

// wantNotFound demands an error, and that nothing is noted.
func wantNotFound(t *testing.T, what string, want api.Errno, roll []api.Person, me int, priv api.Hash) {
	t.Helper()
	b := book.New()
	if e, err := era.Found(b, roll, me, key(1), priv); e != nil || err != want {
		t.Errorf("%s: Found = %v, %d, want the error %d", what, e != nil, err, want)
	}
	if b.Len() != 0 {
		t.Errorf("%s: %d facts are noted", what, b.Len())
	}
}

func TestFoundOfNobody(t *testing.T) {
	for _, me := range []int{0, -1, -64, math.MinInt, math.MaxInt, 4, 5, 64, 65, 1 << 32, 1<<32 + 1} {
		wantNotFound(t, fmt.Sprint("the name ", me), api.ErrNone, rollOf(3), me, leafKey(1))
		wantNotFound(t, fmt.Sprint("the name ", me, " of none"), api.ErrNone, nil, me, leafKey(1))
	}
	for _, me := range []int{65, 66, 70} {
		wantNotFound(t, fmt.Sprint("the name ", me, " of 70"), api.ErrNone, rollOf(70), me, leafKey(me))
		wantNotFound(t, fmt.Sprint("the name ", me, " of 70, by another key"), api.ErrNone, rollOf(70), me, key(9))
	}
	roll := rollOf(3)
	roll[1].Cards = nil
	wantNotFound(t, "no cards", api.ErrNone, roll, 2, leafKey(2))
	roll[1].Cards = []api.Card{}
	wantNotFound(t, "an empty deck", api.ErrNone, roll, 2, key(9))
}

func TestFoundByAnotherKey(t *testing.T) {
	roll := rollOf(3)
	last := leafKey(2)
	last[31] ^= 1
	for what, priv := range map[string]api.Hash{
		"another name's": leafKey(1), "the second card's": key(4002), "the public one": pubOf(leafKey(2)),
		"noughts": {}, "one bit off": last, "the card's Init": key(3002),
	} {
		wantNotFound(t, what, api.ErrPath, roll, 2, priv)
	}
	roll[1].Cards[0].Leaf = leafKey(2) // not the public one
	wantNotFound(t, "a card with the secret key", api.ErrPath, roll, 2, leafKey(2))
}

// Promise 12.3: Place, Copy, Secrets.

func TestPlace(t *testing.T) {
	f := mixedFrame()
	for place, leaf := range f.Tree.Leaves {
		if leaf.Name == 0 {
			continue
		}
		e, err := era.Make(nil, f, leaf.Name, nil, secrets(60))
		if err != api.OK || e.Place() != place {
			t.Errorf("the name %d has the place %d, want %d", leaf.Name, e.Place(), place)
		}
	}
	e := mixedEra(t)
	for _, me := range noNames() {
		if e.Me = me; e.Place() != -1 {
			t.Errorf("the name %d has the place %d", me, e.Place())
		}
	}
}

func TestPlaceFollowsTheFields(t *testing.T) {
	e := mixedEra(t)
	if e.Me = 64; e.Place() != 5 {
		t.Errorf("the name 64 has the place %d", e.Place())
	}
	if e.Tree, _ = tree.Remove(e.Tree, 5); e.Place() != -1 {
		t.Errorf("who is gone has the place %d", e.Place())
	}
}

func TestNilEra(t *testing.T) {
	var e *era.Era
	if e.Place() != -1 || e.Copy() != nil || len(e.Secrets()) != 0 || e.Pack() != "" {
		t.Errorf("a nil era has a place, a copy, secrets or bytes")
	}
}

func TestCopy(t *testing.T) {
	r := rand.New(rand.NewSource(12))
	for i := range 40 {
		e := anyEra(t, r)
		if i == 0 {
			e = mixedEra(t)
		}
		c := e.Copy()
		wantAlike(t, "a copy", c, e)
		wantShape(t, "a copy", c)
		wantApart(t, "a copy", map[string]any{"the era": e, "its copy": c, "another copy": e.Copy(), "the copy's copy": c.Copy()})
	}
}

// spoil changes all that an era has.
func spoil(e *era.Era) {
	for i := range e.Tree.Leaves {
		e.Tree.Leaves[i].Pub[3] ^= 1
	}
	for i := range e.Tree.Parents {
		e.Tree.Parents[i].Pub[3] ^= 1
		for j := range e.Tree.Parents[i].Loose {
			e.Tree.Parents[i].Loose[j] = 99
		}
	}
	for i := range e.Keys {
		e.Keys[i] = api.Key{Node: 99}
	}
	for place := range 256 {
		e.Init.Take(nil, place<<20)
		for _, row := range e.Apps {
			row.Take(nil, place)
		}
	}
	e.Apps[0] = nil
	e.Id, e.Parent, e.Said, e.Export = key(1), key(1), key(1), key(1)
	e.Depth, e.Me, e.Forks, e.Sent, e.Times[7] = 1, 99, 9, 9, 9
}

func TestCopyGoesOnByItself(t *testing.T) {
	e := mixedEra(t)
	spoil(e.Copy())
	wantAlike(t, "an era whose copy was changed", e, mixedEra(t))
	c := e.Copy()
	spoil(e)
	wantAlike(t, "the copy of an era that was changed", c, mixedEra(t))
}

func TestSecrets(t *testing.T) {
	e, err := era.Found(nil, rollOf(2), 2, key(1), leafKey(2))
	if err != api.OK {
		t.Fatalf("Found: %d", err)
	}
	want, epoch, _ := firstEra(rollOf(2), 2, key(1), leafKey(2))
	list := []api.Hash{leafKey(2), derived(epoch, "init", ""), derived(derived(epoch, "apps", ""), "app", "\x00"), want.Export}
	if got := e.Secrets(); !slices.Equal(got, list) {
		t.Errorf("Secrets = %x, want %x", got, list)
	}
	r := rand.New(rand.NewSource(12))
	for range 40 {
		e := anyEra(t, r)
		got := e.Secrets()
		if !slices.Equal(got, secretsOf(e)) {
			t.Errorf("Secrets of an era by chance are other ones")
		}
		wantApart(t, "Secrets", map[string]any{"the era": e, "the answer": got, "another answer": e.Secrets()})
		clear(got[:cap(got)])
		if !slices.Equal(e.Secrets(), secretsOf(e)) {
			t.Errorf("Secrets were kept by who asked for them")
		}
	}
}

func TestSecretsStandInOrder(t *testing.T) {
	e := mixedEra(t)
	want := []api.Hash{key(3), leafKey(4), key(7)} // by rising nodes
	want = append(want, e.Init.Seeds()...)
	for _, place := range []int{0, 1, 2, 3, 5, 6} {
		want = append(want, e.Apps[place].Seeds()...)
	}
	want = append(want, key(66))
	if got := e.Secrets(); !slices.Equal(got, want) {
		t.Errorf("Secrets = %x, want %x", got, want)
	}
	// Of Init 31 seeds on each side of the root; of the rows 7 and 13 where keys are gone, and four roots.
	if want := 3 + 2*31 + 7 + 13 + 4 + 1; len(e.Secrets()) != want {
		t.Errorf("%d secrets, want %d", len(e.Secrets()), want)
	}
}

// Promise 12.4: Pack, Unpack.

// wantUnpacked demands that what was packed is unpacked as it was.
func wantUnpacked(t *testing.T, what string, e *era.Era) *era.Era {
	t.Helper()
	bytes := e.Pack()
	u, err := era.Unpack(bytes)
	if err != api.OK || bytes == "" {
		t.Fatalf("%s: Unpack of %d bytes: %d", what, len(bytes), err)
	}
	wantAlike(t, what, u, e)
	wantShape(t, what, u)
	if again := e.Pack(); again != bytes {
		t.Errorf("%s: packed again it has other bytes", what)
	}
	other, _ := era.Unpack(bytes)
	wantApart(t, what, map[string]any{"the era": e, "the answer": u, "another answer": other})
	return u
}

func TestPackAndUnpack(t *testing.T) {
	e, _ := era.Found(nil, rollOf(2), 2, key(1), leafKey(2))
	wantUnpacked(t, "a first era", e)
	wantUnpacked(t, "an era of many", mixedEra(t))
	r := rand.New(rand.NewSource(12))
	for i := range 120 {
		wantUnpacked(t, fmt.Sprint("the era ", i), anyEra(t, r))
	}
}

func TestPackOfFieldsThatWereChanged(t *testing.T) {
	for what, change := range map[string]func(e *era.Era){
		"no keys":          func(e *era.Era) { e.Keys = nil },
		"many keys":        func(e *era.Era) { e.Keys = make([]api.Key, 1000) },
		"keys of no node":  func(e *era.Era) { e.Keys = []api.Key{{Node: api.MaxNum, Priv: key(1)}, {Node: 3}, {Node: 3}} },
		"many forks":       func(e *era.Era) { e.Forks = 32 },
		"far more forks":   func(e *era.Era) { e.Forks = api.MaxNum },
		"all sent":         func(e *era.Era) { e.Sent = 256 },
		"far more sent":    func(e *era.Era) { e.Sent = api.MaxNum },
		"another member":   func(e *era.Era) { e.Me = 64 },
		"another one yet":  func(e *era.Era) { e.Me = 3 },
		"the last depth":   func(e *era.Era) { e.Depth = api.MaxNum },
		"noughts":          func(e *era.Era) { e.Id, e.Parent, e.Said, e.Export = api.Hash{}, api.Hash{}, api.Hash{}, api.Hash{} },
		"no times":         func(e *era.Era) { e.Times = api.Times{} },
		"an empty row":     func(e *era.Era) { e.Init, _ = ppr.Unpack("\x00", 32) },
		"an empty last":    func(e *era.Era) { e.Apps[6], _ = ppr.Unpack("\x00", 8) },
		"a row all gone":   func(e *era.Era) { takePart(e.Apps[0], 1, 0) },
		"every second one": func(e *era.Era) { takePart(e.Apps[1], 2, 1) },
	} {
		e := mixedEra(t)
		change(e)
		wantUnpacked(t, what, e)
	}
}

// takePart takes each step-th key of a row of 8 bits, from one on.
func takePart(row *ppr.Row, step, from int) {
	for place := from; place < 256; place += step {
		row.Take(nil, place)
	}
}

func TestUnlikeErasHaveUnlikeBytes(t *testing.T) {
	met := map[string]string{mixedEra(t).Pack(): "as it was"}
	for what, change := range map[string]func(e *era.Era){
		"Id":         func(e *era.Era) { e.Id[0] ^= 1 },
		"Parent":     func(e *era.Era) { e.Parent[31] ^= 1 },
		"Depth":      func(e *era.Era) { e.Depth++ },
		"a leaf":     func(e *era.Era) { e.Tree.Leaves[0].Above[0] ^= 1 },
		"a parent":   func(e *era.Era) { e.Tree.Parents[0].Above[0] ^= 1 },
		"loose ones": func(e *era.Era) { e.Tree.Parents[0].Loose = nil },
		"Said":       func(e *era.Era) { e.Said[0] ^= 1 },
		"first time": func(e *era.Era) { e.Times[0]++ },
		"last time":  func(e *era.Era) { e.Times[63]++ },
		"Me":         func(e *era.Era) { e.Me = 5 },
		"a node":     func(e *era.Era) { e.Keys[0].Node++ },
		"a key":      func(e *era.Era) { e.Keys[0].Priv[0] ^= 1 },
		"keys less":  func(e *era.Era) { e.Keys = e.Keys[:2] },
		"Init":       func(e *era.Era) { e.Init.Take(nil, 8) },
		"Forks":      func(e *era.Era) { e.Forks++ },
		"first row":  func(e *era.Era) { e.Apps[0].Take(nil, 8) },
		"last row":   func(e *era.Era) { e.Apps[6].Take(nil, 8) },
		"rows":       func(e *era.Era) { e.Apps[0], e.Apps[1] = e.Apps[1], e.Apps[0] },
		"Sent":       func(e *era.Era) { e.Sent++ },
		"Export":     func(e *era.Era) { e.Export[0] ^= 1 },
	} {
		e := mixedEra(t)
		change(e)
		bytes := e.Pack()
		if ahead, ok := met[bytes]; ok {
			t.Errorf("with another %q an era has the bytes of that with %q", what, ahead)
		}
		met[bytes] = what
		wantUnpacked(t, what, e)
	}
}

// sizedRow is a row of 32 bits whose bytes are so many: seeds of 34 or 35 bytes, which stand at its first places.
func sizedRow(t *testing.T, size int) *ppr.Row {
	t.Helper()
	low := 0
	for (size-2-34*low)%35 != 0 {
		low++
	}
	high := (size - 2 - 34*low) / 35
	var bytes strings.Builder
	bytes.WriteString(num(low + high))
	for i := range low + high {
		place := i
		if i >= low {
			place += 64 - low
		}
		bytes.WriteString(num(32) + num(place) + text(key(i)))
	}
	row, err := ppr.Unpack(bytes.String(), 32)
	if err != api.OK || len(row.Pack()) != size {
		t.Fatalf("a row of %d bytes: %d", size, err)
	}
	return row
}

func TestPackOfLongRows(t *testing.T) {
	e := mixedEra(t)
	for _, size := range []int{65535, 65536, 65537, 131071, 131072, 131073, 196608} {
		e.Init = sizedRow(t, size)
		wantUnpacked(t, fmt.Sprint(size, " bytes"), e)
	}
	r := rand.New(rand.NewSource(12))
	e = mixedEra(t)
	for range 800 {
		e.Init.Take(nil, r.Intn(1<<32))
	}
	wantUnpacked(t, "a row of which much is gone", e)
}

func TestUnpackedGoesOnAsItWas(t *testing.T) {
	e := mixedEra(t)
	u := wantUnpacked(t, "an era", e)
	for _, place := range []int{7, 8, 0, 1<<32 - 1, 1 << 31, 8} {
		a, x := e.Init.Take(nil, place)
		b, y := u.Init.Take(nil, place)
		if a != b || x != y {
			t.Errorf("Take(%d) = %x, %d, and %x, %d of the unpacked", place, a, x, b, y)
		}
	}
	for at := range e.Apps {
		for _, place := range []int{0, 3, 255} {
			a, x := e.Apps[at].Take(nil, place)
			b, y := u.Apps[at].Take(nil, place)
			if a != b || x != y {
				t.Errorf("of the row %d Take(%d) = %x, %d, and %x, %d of the unpacked", at, place, a, x, b, y)
			}
		}
	}
	wantAlike(t, "behind that", u, e)
}

// wantRead demands that bytes are no era's, or those of the era that is read of them.
func wantRead(t *testing.T, what, bytes string) (isOne bool) {
	t.Helper()
	e, err := era.Unpack(bytes)
	if err == api.OK && e != nil {
		wantShape(t, what, e)
		if e.Pack() != bytes {
			t.Errorf("%s: the era that was read has other bytes", what)
		}
		return true
	}
	if err != api.ErrForm || e != nil {
		t.Errorf("%s: Unpack = %v, %d", what, e != nil, err)
	}
	return false
}

func wantNoEra(t *testing.T, what, bytes string) {
	t.Helper()
	if wantRead(t, what, bytes) {
		t.Errorf("%s: an era was read", what)
	}
}

func TestUnpackOfOtherBytes(t *testing.T) {
	for _, bytes := range []string{"", "\x00", "x", text(key(1)), strings.Repeat("\x00", 3000), strings.Repeat("\x01", 3000), strings.Repeat("\xff", 3000), strings.Repeat("\x00", 1<<17)} {
		wantNoEra(t, fmt.Sprint(len(bytes), " bytes"), bytes)
	}
	r := rand.New(rand.NewSource(12))
	for range 2000 {
		bytes := make([]byte, r.Intn(2000))
		r.Read(bytes)
		wantRead(t, "bytes by chance", string(bytes))
	}
}

func TestUnpackOfCutBytes(t *testing.T) {
	first, _ := era.Found(nil, rollOf(2), 2, key(1), leafKey(2))
	for _, e := range []*era.Era{first, mixedEra(t)} {
		bytes := e.Pack()
		for n := range len(bytes) {
			wantNoEra(t, fmt.Sprint("the first ", n, " bytes"), bytes[:n])
			wantRead(t, fmt.Sprint("without the first ", n+1), bytes[n+1:])
			wantRead(t, fmt.Sprint("without the byte ", n), bytes[:n]+bytes[n+1:])
		}
		for b := range 256 {
			wantNoEra(t, fmt.Sprint("the byte ", b, " behind"), bytes+string([]byte{byte(b)}))
			wantRead(t, fmt.Sprint("the byte ", b, " ahead"), string([]byte{byte(b)})+bytes)
		}
		wantNoEra(t, "twice", bytes+bytes)
	}
}

func TestUnpackOfChangedBytes(t *testing.T) {
	first, _ := era.Found(nil, rollOf(2), 2, key(1), leafKey(2))
	for _, e := range []*era.Era{first, mixedEra(t)} {
		bytes, read := []byte(e.Pack()), 0
		for i, was := range bytes {
			for bit := range 8 {
				bytes[i] = was ^ 1<<bit
				if wantRead(t, fmt.Sprint("the bit ", bit, " of the byte ", i), string(bytes)) {
					read++
				}
			}
			for _, b := range []byte{0, 0x3f, 0xff} {
				bytes[i] = b
				wantRead(t, fmt.Sprint("the byte ", i, " made ", b), string(bytes))
			}
			bytes[i] = was
		}
		if read == 0 {
			t.Errorf("no bit can be another one")
		}
	}
}

// asText is bytes as a text.
func asText(bytes string) string { return num(len(bytes)) + bytes }

func TestUnpackOfNoErasFields(t *testing.T) {
	e := mixedEra(t)
	packed := e.Pack()
	row := func(place int) string { return asText(e.Apps[place].Pack()) }
	init, whole := asText(e.Init.Pack()), asText(tree.Pack(e.Tree))
	without, _ := tree.Remove(e.Tree, 3)
	shorter, _ := tree.Remove(e.Tree, 6)
	wider, _, _ := tree.Add(e.Tree, leafOf(1))
	renewed, _ := tree.Renew(e.Tree, 3, key(9))
	deep, _ := ppr.New(key(9), 32)
	deep.Take(nil, 1)
	times := ""
	for i := range 64 {
		times += num(i * 3)
	}
	for _, c := range []struct {
		what, from, to string
		isOne          bool
	}{
		{"no change", init, init, true},
		{"another tree of these", whole, asText(tree.Pack(renewed)), true},
		{"a tree without me", whole, asText(tree.Pack(without)), false},
		{"a tree with a leaf less", whole, asText(tree.Pack(shorter)), false},
		{"a tree with no blank leaf", whole, asText(tree.Pack(wider)), false},
		{"no tree", whole, asText(""), false},
		{"a tree without leaves", whole, asText("\x00"), false},
		{"a tree and more", whole, asText(tree.Pack(e.Tree) + "\x00"), false},
		{"no row for commits", init, asText(""), false},
		{"a row for commits without seeds", init, asText("\x00"), true},
		{"a row for commits, and more", init, asText(e.Init.Pack() + "\x00"), false},
		{"a row for commits, cut", init, asText(e.Init.Pack()[:40]), false},
		{"no row of a member", row(0), asText(""), false},
		{"a row of a member without seeds", row(0), asText("\x00"), true},
		{"a row of a member that is too deep", row(0), asText(deep.Pack()), false},
		{"a row of the blank leaf", row(3) + asText(""), row(3) + row(0), false},
		{"a row too few", row(6), "", false},
		{"a row too many", row(6), row(6) + row(6), false},
		{"a row too many, which is none", row(6), row(6) + asText(""), false},
		{"a time that is too short", times, times[:len(times)-2], false},
		{"a time in a longer form", times, "\x40\x00" + times[1:], false},
		{"a text in a longer form", row(6), "\x80\x00" + row(6), false},
	} {
		if strings.Count(packed, c.from) != 1 {
			t.Fatalf("%s: it stands in the bytes %d times", c.what, strings.Count(packed, c.from))
		}
		if got := wantRead(t, c.what, strings.Replace(packed, c.from, c.to, 1)); got != c.isOne {
			t.Errorf("%s: an era was read: %t", c.what, got)
		}
	}
}

// Numbers that tell of far more than there is end as soon as there is no more.
func TestUnpackOfGreatNumbers(t *testing.T) {
	e := mixedEra(t)
	packed := e.Pack()
	first := num(3) + text(key(3)) // the first key's node, and itself
	at := strings.Index(packed, first) - 1
	if at < 0 || packed[at] != 3 {
		t.Fatalf("no number of keys ahead of the first one")
	}
	for _, n := range []int{4, 64, 1 << 20, 1 << 40, api.MaxNum} {
		wantNoEra(t, fmt.Sprint(n, " keys"), packed[:at]+num(n)+packed[at+1:])
		wantNoEra(t, fmt.Sprint(n, " keys, and no more"), packed[:at]+num(n))
	}
}

func TestPackOfWrongFields(t *testing.T) {
	for what, change := range map[string]func(e *era.Era){
		"a depth below 0":    func(e *era.Era) { e.Depth = -1 },
		"a depth too great":  func(e *era.Era) { e.Depth = api.MaxNum + 1 },
		"a time below 0":     func(e *era.Era) { e.Times[5] = -1 },
		"forks below 0":      func(e *era.Era) { e.Forks = -1 },
		"sent below 0":       func(e *era.Era) { e.Sent = math.MinInt },
		"a node below 0":     func(e *era.Era) { e.Keys[0].Node = -1 },
		"no member":          func(e *era.Era) { e.Me = 2 },
		"no row for commits": func(e *era.Era) { e.Init = nil },
		"a row too short":    func(e *era.Era) { e.Init = rowOf(key(1), 31) },
		"no rows":            func(e *era.Era) { e.Apps = nil },
		"a row too few":      func(e *era.Era) { e.Apps = e.Apps[:6] },
		"a row too many":     func(e *era.Era) { e.Apps = append(e.Apps, nil) },
		"a member's missing": func(e *era.Era) { e.Apps[0] = nil },
		"nobody's row":       func(e *era.Era) { e.Apps[4] = rowOf(key(1), 8) },
		"a long row":         func(e *era.Era) { e.Apps[0] = rowOf(key(1), 9) },
		"a wrong tree":       func(e *era.Era) { e.Tree.Leaves[0].Name = 3 },
		"no tree":            func(e *era.Era) { e.Tree = api.Tree{} },
	} {
		e := mixedEra(t)
		change(e)
		wantNoEra(t, what, e.Pack())
		e.Secrets()
		if bad := unlike(e.Copy(), e); bad != "" {
			t.Errorf("%s: %s isn't alike in the copy", what, bad)
		}
	}
}

// Promise 12.5: what holds.

func TestWhatFollowsOfAnErasSecrets(t *testing.T) {
	b := book.New()
	e, err := era.Make(b, mixedFrame(), 4, mixedKnown(), secrets(60))
	if err != api.OK {
		t.Fatalf("Make: %d", err)
	}
	// Of each row some keys are taken, and all others looked at; of that for commits those around the ones that are taken.
	taken := map[int]bool{0: true, 1: true, 77: true, 128: true, 255: true}
	var gone, left []api.Hash
	for _, row := range append([]*ppr.Row{e.Init}, e.Apps...) {
		for place := range 256 {
			if row == e.Init {
				place = place<<24 | 5
			}
			h, err := row.Look(b, place)
			if err != api.OK {
				continue // the blank leaf's
			}
			if taken[place&255] && row != e.Init || taken[place>>24] && row == e.Init {
				row.Take(b, place)
				gone = append(gone, h)
			} else {
				left = append(left, h)
			}
		}
	}
	if len(gone) != 7*5 || len(left) != 7*251 {
		t.Fatalf("%d keys are gone, %d left", len(gone), len(left))
	}
	wantKnown(t, b, e, left, gone)
	wantKnown(t, b, e.Copy(), left, gone)
	wantKnown(t, b, wantUnpacked(t, "behind that", e), left, gone)
}

// wantKnown demands what follows of an era's secrets.
func wantKnown(t *testing.T, b *book.Book, e *era.Era, left, gone []api.Hash) {
	t.Helper()
	var follow [2]int
	met := map[api.Hash]bool{}
	for _, h := range b.Follows(e.Secrets()...) {
		met[h] = true
	}
	for i, list := range [][]api.Hash{left, gone} {
		for _, h := range list {
			if met[h] {
				follow[i]++
			}
		}
	}
	if !met[e.Export] || follow != [2]int{len(left), 0} {
		t.Errorf("Export follows: %t; of %d keys that are left %d, of %d that are gone %d", met[e.Export], len(left), follow[0], len(gone), follow[1])
	}
	s := secrets(60)
	for _, h := range []api.Hash{s.Joiner, s.Welcome, s.Epoch, s.Confirm, s.Apps} {
		if met[h] {
			t.Errorf("%x follows, which no era keeps", h)
		}
	}
}

func TestWhoFoundsShowsWhatIsHis(t *testing.T) {
	b := book.New()
	e, err := era.Found(b, rollOf(1), 1, key(1), leafKey(1))
	if err != api.OK {
		t.Fatalf("Found: %d", err)
	}
	_, epoch, _ := firstEra(rollOf(1), 1, key(1), leafKey(1))
	mine := e.Secrets()
	if !b.Knows(e.Export, key(1)) || !b.Knows(epoch, key(1)) || !b.Knows(e.Export, mine...) || b.Knows(epoch, mine...) || b.Knows(key(1), mine...) {
		t.Errorf("of the once, or of the era's secrets, follows another thing")
	}
	if !b.Knows(digest("mark", text(pubOf(leafKey(1)))), mine...) {
		t.Errorf("the leaf's mark doesn't follow of its key")
	}
}

func TestAFullBookStopsNothing(t *testing.T) {
	if testing.Short() {
		t.Skip("it fills a book")
	}
	b := book.New()
	var h api.Hash
	for i := range api.MaxBook {
		binary.BigEndian.PutUint32(h[:], uint32(i))
		b.Note(fact(h, h))
	}
	want, epoch, _ := firstEra(rollOf(1), 1, key(1), leafKey(1))
	e, err := era.Found(b, rollOf(1), 1, key(1), leafKey(1))
	if err != api.OK || b.Len() != api.MaxBook {
		t.Fatalf("Found: %d, with %d facts", err, b.Len())
	}
	wantAlike(t, "with a full book", e, want)
	wantNamed(t, "with a full book", b, e.Id, epoch)
}

func FuzzUnpack(f *testing.F) {
	first, _ := era.Found(nil, rollOf(2), 2, key(1), leafKey(2))
	many, _ := era.Make(nil, mixedFrame(), 4, mixedKnown(), secrets(60))
	f.Add("")
	f.Add(first.Pack())
	f.Add(many.Pack())
	takeAll(many.Init, 7, 8, 1<<31)
	takeAll(many.Apps[6], 7, 8)
	many.Forks, many.Sent = 3, 1
	f.Add(many.Pack())
	f.Fuzz(func(t *testing.T, bytes string) {
		if wantRead(t, "fuzzed", bytes) {
			e, _ := era.Unpack(bytes)
			wantAlike(t, "fuzzed", e.Copy(), e)
		}
	})
}
