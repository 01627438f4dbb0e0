package hold_test

import (
	"math"
	"slices"
	"testing"

	"bevy/api"
	"bevy/hold"
)

// Promise 16.2: Has, Take, Drop, Len, All.

func TestNothingWaits(t *testing.T) {
	var none *hold.Hold
	for _, h := range []*hold.Hold{none, holdOf(t, 0), holdOf(t, 5)} {
		for _, a := range []api.Hash{id(0), id(1)} {
			if h.Has(a) {
				t.Errorf("Has(%x)", a)
			}
			if list := h.Take(a); len(list) != 0 {
				t.Errorf("Take = %v", list)
			}
		}
		for _, floor := range []int{math.MinInt, -1, 0, 1, math.MaxInt} {
			if many := h.Drop(floor); many != 0 {
				t.Errorf("Drop = %d", many)
			}
		}
		if list := h.All(); len(list) != 0 || h.Len() != 0 {
			t.Errorf("All, Len = %v, %d", list, h.Len())
		}
	}
}

func TestHas(t *testing.T) {
	h := holdOf(t, 4, item(1, 7, 0), item(2, 8, 1), hold.Item{Id: id(1), Wait: id(9), Depth: 2, Text: "other"})
	has := func(wanted ...int) {
		t.Helper()
		for n := range 12 {
			if h.Has(id(n)) != slices.Contains(wanted, n) {
				t.Errorf("Has(%d) = %t", n, h.Has(id(n)))
			}
		}
	}
	has(1, 2)
	h.Take(id(7))
	has(1, 2) // one of two with this Id
	h.Drop(2)
	has(1)
	h.Take(id(9))
	has()
	if h.Has(api.Hash{1}) || h.Has(api.Hash{}) {
		t.Error("an Id that nothing has")
	}
}

func TestHasOfNoughts(t *testing.T) {
	h := holdOf(t, 1, hold.Item{})
	if !h.Has(api.Hash{}) || h.Has(id(1)) {
		t.Error("the Id of noughts isn't one like others")
	}
}

func TestTake(t *testing.T) {
	list := items(item(1, 7, 9), item(2, 8, 8), item(3, 7, 7), item(4, 9, 6), item(5, 7, 5), item(6, 8, 4))
	for _, x := range []struct {
		wait        int
		taken, left []int
	}{
		{7, []int{0, 2, 4}, []int{1, 3, 5}},
		{8, []int{1, 5}, []int{0, 2, 3, 4}},
		{9, []int{3}, []int{0, 1, 2, 4, 5}},
		{1, nil, []int{0, 1, 2, 3, 4, 5}}, // an Id, not what is waited for
		{0, nil, []int{0, 1, 2, 3, 4, 5}},
		{10, nil, []int{0, 1, 2, 3, 4, 5}},
	} {
		h := holdOf(t, 6, list...)
		if got := h.Take(id(x.wait)); !slices.Equal(got, pick(list, x.taken)) {
			t.Errorf("Take(%d) = %v", x.wait, got)
		}
		want(t, h, pick(list, x.left)...)
		if got := h.Take(id(x.wait)); len(got) != 0 {
			t.Errorf("Take(%d) once more = %v", x.wait, got)
		}
		want(t, h, pick(list, x.left)...)
	}
}

func TestTakeOneBehindTheOther(t *testing.T) {
	h := holdOf(t, 4, item(1, 7, 9), item(2, 8, 8), item(3, 7, 7), item(4, 9, 6))
	for _, x := range []struct {
		wait int
		list []hold.Item
	}{
		{8, items(item(2, 8, 8))},
		{7, items(item(1, 7, 9), item(3, 7, 7))},
		{7, nil},
		{9, items(item(4, 9, 6))},
		{9, nil},
	} {
		if got := h.Take(id(x.wait)); !slices.Equal(got, x.list) {
			t.Errorf("Take(%d) = %v", x.wait, got)
		}
	}
	want(t, h)
}

// What waits for the digest of noughts is taken like others.
func TestTakeOfNoughts(t *testing.T) {
	h := holdOf(t, 3, item(1, 0, 0), item(2, 1, 0), item(3, 0, 0))
	if got := h.Take(api.Hash{}); !slices.Equal(got, items(item(1, 0, 0), item(3, 0, 0))) {
		t.Errorf("Take = %v", got)
	}
	want(t, h, item(2, 1, 0))
}

func TestTakeOfAFullHold(t *testing.T) {
	var list []hold.Item
	for n := range 256 {
		list = append(list, item(n, 7, -n))
	}
	h := holdOf(t, 256, list...)
	if got := h.Take(id(7)); !slices.Equal(got, list) {
		t.Errorf("%d of them", len(got))
	}
	want(t, h)
	for _, x := range list {
		if err := h.Put(x); err != api.OK {
			t.Fatalf("Put(%v) = %d", x, err)
		}
	}
	want(t, h, list...)
}

func TestDrop(t *testing.T) {
	list := items(item(1, 7, 5), item(2, 8, 3), item(3, 7, -1), item(4, 9, 5), item(5, 7, math.MinInt), item(6, 8, 4), item(7, 8, math.MaxInt))
	for _, x := range []struct {
		floor int
		left  []int
	}{
		{math.MinInt, []int{0, 1, 2, 3, 4, 5, 6}},
		{math.MinInt + 1, []int{0, 1, 2, 3, 5, 6}},
		{-1, []int{0, 1, 2, 3, 5, 6}},
		{0, []int{0, 1, 3, 5, 6}},
		{3, []int{0, 1, 3, 5, 6}},
		{4, []int{0, 3, 5, 6}},
		{5, []int{0, 3, 6}},
		{6, []int{6}},
		{api.MaxNum, []int{6}},
		{math.MaxInt, []int{6}},
	} {
		h := holdOf(t, 7, list...)
		if many := h.Drop(x.floor); many != len(list)-len(x.left) {
			t.Errorf("Drop(%d) = %d", x.floor, many)
		}
		want(t, h, pick(list, x.left)...)
		if many := h.Drop(x.floor); many != 0 {
			t.Errorf("Drop(%d) once more = %d", x.floor, many)
		}
	}
}

func TestDropOfAll(t *testing.T) {
	h := holdOf(t, 3, item(1, 7, 0), item(2, 8, 1), item(3, 7, 2))
	if many := h.Drop(3); many != 3 {
		t.Errorf("Drop = %d", many)
	}
	want(t, h)
	if got := h.Take(id(7)); len(got) != 0 {
		t.Errorf("Take = %v", got)
	}
}

// A floor is of the call alone: what is put behind it may be as deep as it likes.
func TestAFloorIsForgotten(t *testing.T) {
	h := holdOf(t, 3, item(1, 7, 0))
	h.Drop(100)
	if err := h.Put(item(2, 7, 1)); err != api.OK {
		t.Errorf("Put = %d", err)
	}
	h.Drop(1)
	want(t, h, item(2, 7, 1))
}

func TestAllInTheOrderInWhichTheyWerePut(t *testing.T) {
	list := items(item(9, 3, 4), item(1, 7, 2), item(5, 2, 9), item(1, 7, 2), item(8, 1, 0))
	list[3].Text = "another one"
	for _, order := range permutations(len(list)) {
		want(t, holdOf(t, 5, pick(list, order)...), pick(list, order)...)
	}
}

// The rules: what is handed out is new memory, and what only looks changes nothing.

func TestAnswersShareNothing(t *testing.T) {
	list := items(item(1, 7, 0), item(2, 8, 1), item(3, 7, 2), item(4, 8, 3), item(5, 7, 4))
	h := holdOf(t, 6, list...)
	all := h.All()
	soil(h.All())
	want(t, h, list...)
	if !slices.Equal(all, list) {
		t.Errorf("an earlier All is %v now", all)
	}
	kept := h.All()
	taken := h.Take(id(7))
	wanted := slices.Clone(taken)
	soil(kept)
	if !slices.Equal(taken, wanted) {
		t.Errorf("Take shares memory with All")
	}
	soil(taken)
	want(t, h, list[1], list[3])
	soil(h.All())
	if err := h.Put(item(6, 7, 5)); err != api.OK {
		t.Errorf("Put = %d", err)
	}
	want(t, h, list[1], list[3], item(6, 7, 5))
}

// What the hold does behind an answer isn't seen in it, nor in the room behind it.
func TestAnswersStayAsTheyWere(t *testing.T) {
	h := holdOf(t, 8, item(1, 7, 0), item(2, 8, 1), item(3, 7, 2), item(4, 7, 3), item(5, 7, 4))
	all, taken := h.All(), h.Take(id(7))
	wholeAll, wholeTaken := slices.Clone(all[:cap(all)]), slices.Clone(taken[:cap(taken)])
	for n := range 7 {
		h.Put(item(10+n, 7, n))
	}
	h.Drop(3)
	h.Take(id(7))
	if !slices.Equal(all[:cap(all)], wholeAll) || !slices.Equal(taken[:cap(taken)], wholeTaken) {
		t.Errorf("All, Take = %v, %v now", all, taken)
	}
}

func TestLookingChangesNothing(t *testing.T) {
	list := items(item(1, 7, 0), item(2, 8, 1))
	h := holdOf(t, 2, list...)
	for range 3 {
		h.Has(id(1))
		h.Has(id(9))
		h.Len()
		h.All()
		h.Take(id(9))
		h.Drop(0)
		h.Put(list[0])
		h.Put(item(3, 7, 0))
		want(t, h, list...)
	}
}

// soil writes into a list, and into its spare room.
func soil(list []hold.Item) {
	list = list[:cap(list)]
	for at := range list {
		list[at] = item(77, 78, 79)
	}
}

// pick is those of a list that stand at some places.
func pick(list []hold.Item, places []int) []hold.Item {
	var made []hold.Item
	for _, at := range places {
		made = append(made, list[at])
	}
	return made
}

// permutations are all orders of the first numbers.
func permutations(many int) [][]int {
	if many == 0 {
		return [][]int{nil}
	}
	var list [][]int
	for _, order := range permutations(many - 1) {
		for at := range many {
			list = append(list, slices.Insert(slices.Clone(order), at, many-1))
		}
	}
	return list
}
