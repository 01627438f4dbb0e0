package dag_test

import (
	"math"
	"math/rand"
	"slices"
	"testing"

	"bevy/api"
	"bevy/dag"
)

// Promise 15.1: New, Insert, Check.

func TestNewTakesOneToMaxKeep(t *testing.T) {
	for _, keep := range []int{math.MinInt, -1, 0, 65, 66, math.MaxInt} {
		if s, err := dag.New[int](keep); s != nil || err != api.ErrArg {
			t.Errorf("New(%d) = %v, %d", keep, s, err)
		}
	}
	for keep := 1; keep <= 64; keep++ {
		s, err := dag.New[string](keep)
		if s == nil || err != api.OK || s.Len() != 0 || s.Floor() != 0 {
			t.Errorf("New(%d) = %v, %d", keep, s, err)
		}
	}
}

func TestChapterExample(t *testing.T) {
	s := storeOf(t, 1, vert(1, 0, 0), vert(2, 1, 1))
	if s.Floor() != 0 {
		t.Errorf("Floor = %d", s.Floor())
	}
	gone, err := s.Insert(vert(3, 2, 2))
	if err != api.OK || !slices.Equal(gone, []vertex{vert(1, 0, 0)}) || s.Floor() != 1 {
		t.Errorf("Insert = %v, %d, the floor is %d", gone, err, s.Floor())
	}
	want(t, s, 2, 3)
}

func TestInsertKeepsAllOfAVertex(t *testing.T) {
	type data struct {
		text string
		to   *int
	}
	s, _ := dag.New[data](3)
	n := 7
	v := dag.Vertex[data]{Id: id(4), Parent: id(9), Depth: 2, Data: data{"what it is", &n}}
	gone, err := s.Insert(v)
	if len(gone) != 0 || err != api.OK {
		t.Fatalf("Insert = %v, %d", gone, err)
	}
	if got, ok := s.Get(id(4)); !ok || got != v {
		t.Errorf("Get = %v, %t", got, ok)
	}
	if got, ok := s.Head(); !ok || got != v {
		t.Errorf("Head = %v, %t", got, ok)
	}
	for got := range s.All() {
		if got != v {
			t.Errorf("All: %v", got)
		}
	}
}

func TestInsertRefusesWrongArguments(t *testing.T) {
	for _, depth := range []int{math.MinInt, -2, -1, 1 << 62, 1<<62 + 1, math.MaxInt} {
		s := storeOf(t, 2)
		if err := both(t, s, &plain{keep: 2}, vert(1, 2, depth)); err != api.ErrArg {
			t.Errorf("Insert at the depth %d = %d", depth, err)
		}
		want(t, s)
	}
	for _, n := range []int{0, 1, 255} {
		s := storeOf(t, 2)
		if err := both(t, s, &plain{keep: 2}, vert(n, n, 0)); err != api.ErrArg {
			t.Errorf("Insert of one that is its own Parent = %d", err)
		}
		want(t, s)
	}
}

func TestInsertTakesAnyDepthThatMayBe(t *testing.T) {
	for _, depth := range []int{0, 1, 64, 65, 1 << 31, 1<<62 - 2, 1<<62 - 1} {
		s, p := storeOf(t, 64), &plain{keep: 64}
		if err := both(t, s, p, vert(1, 2, depth)); err != api.OK {
			t.Errorf("Insert at the depth %d = %d", depth, err)
		}
		agree(t, s, p, ids(0, 1, 2)...)
		if s.Floor() != max(depth-64, 0) {
			t.Errorf("Floor of the depth %d = %d", depth, s.Floor())
		}
	}
}

// The Id of noughts is one like others: who has none ahead of it tells it as its Parent.
func TestNoughtsAreAnIdLikeOthers(t *testing.T) {
	s, p := storeOf(t, 5), &plain{keep: 5}
	if err := both(t, s, p, vert(0, 3, 2)); err != api.OK {
		t.Errorf("Insert = %d", err)
	}
	if err := both(t, s, p, vert(1, 0, 0)); err != api.ErrDepth {
		t.Errorf("Insert of a first one = %d", err)
	}
	if err := both(t, s, p, vert(1, 0, 3)); err != api.OK {
		t.Errorf("Insert behind it = %d", err)
	}
	if err := both(t, s, p, vert(0, 4, 2)); err != api.ErrThere {
		t.Errorf("Insert again = %d", err)
	}
	agree(t, s, p, ids(0, 1, 3)...)
}

func TestInsertRefusesWhatIsThere(t *testing.T) {
	first := []vertex{vert(1, 0, 0), vert(2, 1, 1)}
	for _, v := range []vertex{
		vert(2, 1, 1), vert(2, 1, 2), vert(2, 5, 1), vert(2, 5, 9), vert(1, 2, 2),
		{Id: id(2), Parent: id(1), Depth: 1, Data: -1},
	} {
		s, p := storeOf(t, 3, first...), &plain{3, first}
		if err := both(t, s, p, v); err != api.ErrThere {
			t.Errorf("Insert(%v) = %d", v, err)
		}
		agree(t, s, p, ids(1, 2, 5)...)
	}
}

func TestInsertRefusesWhatIsTooOld(t *testing.T) {
	list := []vertex{vert(5, 4, 10)}
	for _, x := range []struct {
		v   vertex
		err api.Errno
	}{
		{vert(9, 8, 0), api.ErrOld},
		{vert(9, 8, 6), api.ErrOld},
		{vert(9, 8, 7), api.OK},
		{vert(9, 8, 8), api.OK},
		{vert(9, 8, 10), api.OK},
		{vert(9, 8, 11), api.OK},
	} {
		s, p := storeOf(t, 3, list...), &plain{3, list}
		if err := both(t, s, p, x.v); err != x.err {
			t.Errorf("Insert(%v) = %d", x.v, err)
		}
		agree(t, s, p, ids(4, 5, 8, 9)...)
	}
}

func TestWhatIsGoneIsTooOld(t *testing.T) {
	s := storeOf(t, 1, vert(1, 0, 0), vert(2, 1, 1), vert(3, 2, 2))
	if gone, err := s.Insert(vert(1, 0, 0)); len(gone) != 0 || err != api.ErrOld {
		t.Errorf("Insert = %v, %d", gone, err)
	}
	// What is behind it is held against it still.
	if _, err := s.Insert(vert(1, 7, 1)); err != api.ErrDepth {
		t.Errorf("Insert at another depth = %d", err)
	}
	// Once that is gone, too, its Id is as one that never was there.
	s = storeOf(t, 1, vert(1, 0, 0), vert(2, 1, 1), vert(3, 2, 2), vert(4, 3, 3))
	if _, err := s.Insert(vert(1, 7, 1)); err != api.ErrOld {
		t.Errorf("Insert = %d", err)
	}
	if _, err := s.Insert(vert(1, 7, 2)); err != api.OK {
		t.Errorf("Insert at another depth = %d", err)
	}
	want(t, s, 1, 3, 4)
}

func TestInsertHoldsAParentsDepth(t *testing.T) {
	list := []vertex{vert(1, 0, 5)}
	for depth := 0; depth <= 9; depth++ {
		s, p := storeOf(t, 64, list...), &plain{64, list}
		wanted := api.ErrDepth
		if depth == 6 {
			wanted = api.OK
		}
		if err := both(t, s, p, vert(2, 1, depth)); err != wanted {
			t.Errorf("Insert at the depth %d = %d", depth, err)
		}
		agree(t, s, p, ids(0, 1, 2)...)
	}
}

func TestInsertHoldsTheDepthOfThoseBehind(t *testing.T) {
	list := []vertex{vert(1, 2, 5)}
	for depth := 0; depth <= 9; depth++ {
		s, p := storeOf(t, 64, list...), &plain{64, list}
		wanted := api.ErrDepth
		if depth == 4 {
			wanted = api.OK
		}
		if err := both(t, s, p, vert(2, 9, depth)); err != wanted {
			t.Errorf("Insert at the depth %d = %d", depth, err)
		}
		agree(t, s, p, ids(1, 2, 9)...)
	}
	// Of one that is at no Depth below 0, nothing comes ahead.
	s, p := storeOf(t, 64, vert(1, 2, 0)), &plain{64, []vertex{vert(1, 2, 0)}}
	for depth := range 3 {
		if err := both(t, s, p, vert(2, 9, depth)); err != api.ErrDepth {
			t.Errorf("Insert at the depth %d = %d", depth, err)
		}
	}
	// Nor does anything come behind one at the greatest Depth.
	s = storeOf(t, 64, vert(1, 2, 1<<62-1))
	if _, err := s.Insert(vert(3, 1, 1<<62-1)); err != api.ErrDepth {
		t.Errorf("Insert = %d", err)
	}
}

// Two behind one that isn't there may have unlike Depths: then that one fits nowhere, until one of them is gone.
func TestInsertHoldsAllThatAreBehind(t *testing.T) {
	list := []vertex{vert(1, 9, 5), vert(2, 9, 5), vert(3, 9, 7), vert(4, 8, 7)}
	for _, order := range permutations(len(list)) {
		s, p := storeOf(t, 3), &plain{keep: 3}
		for _, at := range order {
			if err := both(t, s, p, list[at]); err != api.OK {
				t.Fatalf("Insert(%v) = %d", list[at], err)
			}
		}
		for depth := 4; depth < 10; depth++ {
			if err := both(t, s, p, vert(9, 10, depth)); err != api.ErrDepth {
				t.Errorf("Insert at the depth %d = %d", depth, err)
			}
		}
		if err := both(t, s, p, vert(5, 4, 8)); err != api.OK || s.Len() != 5 {
			t.Errorf("Insert = %d", err)
		}
		if err := both(t, s, p, vert(9, 10, 6)); err != api.ErrDepth {
			t.Errorf("Insert = %d", err)
		}
		if err := both(t, s, p, vert(6, 5, 9)); err != api.OK || s.Len() != 4 {
			t.Errorf("Insert = %d", err)
		}
		if err := both(t, s, p, vert(9, 10, 7)); err != api.ErrDepth {
			t.Errorf("Insert = %d", err)
		}
		if err := both(t, s, p, vert(9, 10, 6)); err != api.OK {
			t.Errorf("Insert = %d", err)
		}
		agree(t, s, p, ids(1, 2, 3, 4, 5, 6, 9)...)
	}
}

// Neither two that have each other as their Parents nor longer rings come about.
func TestInsertMakesNoRing(t *testing.T) {
	for depth := range 12 {
		s := storeOf(t, 64, vert(1, 2, 5))
		if _, err := s.Insert(vert(2, 1, depth)); err != api.ErrDepth {
			t.Errorf("Insert at the depth %d = %d", depth, err)
		}
		s = storeOf(t, 64, vert(1, 3, 5), vert(2, 1, 6))
		if _, err := s.Insert(vert(3, 2, depth)); err != api.ErrDepth {
			t.Errorf("Insert at the depth %d = %d", depth, err)
		}
	}
}

// Of several errors the one that is named first is answered.
func TestErrorsInTheirOrder(t *testing.T) {
	list := []vertex{vert(1, 0, 10), vert(2, 1, 11), vert(3, 9, 11)}
	for _, x := range []struct {
		v   vertex
		err api.Errno
	}{
		{vert(1, 0, -1), api.ErrArg},    // there, too old, wrong before those behind
		{vert(1, 1, 10), api.ErrArg},    // there
		{vert(9, 9, 0), api.ErrArg},     // too old, wrong before those behind
		{vert(1, 0, 1<<62), api.ErrArg}, // there
		{vert(1, 2, 0), api.ErrThere},   // too old, wrong both ways
		{vert(2, 1, 5), api.ErrThere},   // too old, wrong behind its Parent
		{vert(9, 1, 3), api.ErrOld},     // wrong both ways
		{vert(8, 1, 3), api.ErrOld},     // wrong behind its Parent
		{vert(9, 7, 8), api.ErrOld},     // wrong before those behind
		{vert(9, 7, 9), api.ErrDepth},
		{vert(9, 1, 11), api.ErrDepth}, // right behind its Parent
		{vert(8, 1, 10), api.ErrDepth},
		{vert(9, 7, 10), api.OK},
	} {
		s, p := storeOf(t, 2, list...), &plain{2, list}
		if err := both(t, s, p, x.v); err != x.err {
			t.Errorf("Insert(%v) = %d, want %d", x.v, err, x.err)
		}
		agree(t, s, p, ids(0, 1, 2, 3, 7, 8, 9)...)
	}
}

func TestWhatIsTooOldGoesInOrder(t *testing.T) {
	list := []vertex{
		vert(5, 0, 0), vert(3, 0, 0), vert(4, 5, 1), vert(9, 3, 1), vert(1, 4, 2), vert(8, 4, 2), vert(2, 1, 3),
	}
	for _, order := range permutations(len(list)) {
		s, p := storeOf(t, 3), &plain{keep: 3}
		for _, at := range order {
			both(t, s, p, list[at])
		}
		gone, err := s.Insert(vert(7, 6, 5))
		if err != api.OK || !slices.Equal(gone, []vertex{list[1], list[0], list[2], list[3]}) {
			t.Fatalf("Insert = %v, %d", gone, err)
		}
		want(t, s, 1, 8, 2, 7)
		// One that stands far below leaves nothing else.
		gone, err = s.Insert(vert(11, 10, 1<<62-1))
		if err != api.OK || !slices.Equal(idsOf(gone), ids(1, 8, 2, 7)) {
			t.Fatalf("Insert = %v, %d", gone, err)
		}
		want(t, s, 11)
	}
}

func TestWhatStandsOnTheFloorStays(t *testing.T) {
	for keep := 1; keep <= 64; keep++ {
		s := storeOf(t, keep)
		for depth := range 3*keep + 2 {
			gone, err := s.Insert(vert(depth+1, depth, depth))
			if err != api.OK {
				t.Fatalf("Insert = %d", err)
			}
			if depth <= keep && len(gone) != 0 || depth > keep && !slices.Equal(idsOf(gone), ids(depth-keep)) {
				t.Fatalf("keep %d, depth %d: %v", keep, depth, gone)
			}
			if s.Len() != min(depth, keep)+1 || s.Floor() != max(depth-keep, 0) {
				t.Fatalf("keep %d, depth %d: Len, Floor = %d, %d", keep, depth, s.Len(), s.Floor())
			}
		}
	}
}

// One that doesn't become the head, or no deeper one, makes none go.
func TestAnotherHeadOfOneDepthLeavesTheFloor(t *testing.T) {
	s := storeOf(t, 1, vert(5, 0, 1), vert(6, 5, 2))
	for _, v := range []vertex{vert(7, 5, 2), vert(2, 5, 2), vert(9, 0, 1), vert(4, 9, 2)} {
		if gone, err := s.Insert(v); len(gone) != 0 || err != api.OK || s.Floor() != 1 {
			t.Errorf("Insert(%v) = %v, %d", v, gone, err)
		}
	}
	want(t, s, 5, 9, 2, 4, 6, 7)
}

func TestCheckChangesNothing(t *testing.T) {
	r := rand.New(rand.NewSource(1))
	s, p := storeOf(t, 4), &plain{keep: 4}
	for _, v := range grown(r, 40) {
		for range 10 {
			probe := vert(r.Intn(45), r.Intn(45), r.Intn(30)-1)
			if got := s.Check(probe); got != p.check(probe) {
				t.Fatalf("Check(%v) = %d, want %d", probe, got, p.check(probe))
			}
			if s.Check(probe) != p.check(probe) {
				t.Fatalf("Check(%v) answers otherwise the second time", probe)
			}
		}
		agree(t, s, p, idsOf(p.list)...)
		both(t, s, p, v)
	}
}

func TestRefusedChangesNothing(t *testing.T) {
	r := rand.New(rand.NewSource(2))
	for range 100 {
		s, p := storeOf(t, 3), &plain{keep: 3}
		for _, v := range grown(r, 12) {
			both(t, s, p, v)
		}
		for range 60 {
			v := vert(r.Intn(16), r.Intn(16), r.Intn(14)-1)
			if p.check(v) == api.OK {
				continue
			}
			both(t, s, p, v)
			agree(t, s, p, idsOf(p.list)...)
		}
	}
}

func TestANilStoreTakesNone(t *testing.T) {
	var s *dag.Store[int]
	for _, v := range []vertex{vert(1, 0, 0), vert(1, 1, 0), vert(1, 0, -1), {}} {
		if err := s.Check(v); err != api.ErrArg {
			t.Errorf("Check(%v) = %d", v, err)
		}
		if gone, err := s.Insert(v); len(gone) != 0 || err != api.ErrArg {
			t.Errorf("Insert(%v) = %v, %d", v, gone, err)
		}
	}
}

// permutations are all orders of the first numbers.
func permutations(many int) [][]int {
	if many == 0 {
		return [][]int{nil}
	}
	var list [][]int
	for _, shorter := range permutations(many - 1) {
		for at := range many {
			list = append(list, slices.Insert(slices.Clone(shorter), at, many-1))
		}
	}
	return list
}
