package hold_test

import (
	"math"
	"slices"
	"strings"
	"testing"

	"bevy/api"
	"bevy/hold"
)

// Promise 16.1: New, Put.

func TestNewTakesNoughtToMaxRoom(t *testing.T) {
	for _, room := range []int{math.MinInt, -256, -1, 257, 258, 512, 1 << 32, math.MaxInt} {
		if h, err := hold.New(room); h != nil || err != api.ErrArg {
			t.Errorf("New(%d) = %v, %d", room, h, err)
		}
	}
	for room := 0; room <= 256; room++ {
		want(t, holdOf(t, room))
	}
}

func TestChapterExample(t *testing.T) {
	h := holdOf(t, 1, item(1, 7, 0))
	if err := h.Put(item(2, 7, 0)); err != api.ErrFull {
		t.Errorf("Put = %d", err)
	}
	if got := h.Take(id(7)); !slices.Equal(got, items(item(1, 7, 0))) {
		t.Errorf("Take = %v", got)
	}
	want(t, h)
}

func TestPutOnANilHold(t *testing.T) {
	var h *hold.Hold
	for _, x := range items(hold.Item{}, item(1, 2, 3)) {
		if err := h.Put(x); err != api.ErrArg {
			t.Errorf("Put = %d", err)
		}
	}
}

func TestPutTakesAsManyAsThereIsRoomFor(t *testing.T) {
	for room := 0; room <= 256; room++ {
		h := holdOf(t, room)
		for n := range room {
			if err := h.Put(item(n, n%3, n)); err != api.OK {
				t.Fatalf("room %d: Put as number %d = %d", room, n, err)
			}
		}
		for range 2 {
			if err := h.Put(item(room, 1, room)); err != api.ErrFull {
				t.Fatalf("room %d: Put of one more = %d", room, err)
			}
		}
		if h.Len() != room || h.Has(id(room)) {
			t.Fatalf("room %d: %d wait", room, h.Len())
		}
	}
}

// Room is again as soon as something came out.
func TestPutWhereSomethingCameOut(t *testing.T) {
	h := holdOf(t, 2, item(1, 7, 4), item(2, 8, 5))
	h.Take(id(7))
	if err := h.Put(item(3, 7, 6)); err != api.OK {
		t.Errorf("Put behind a Take = %d", err)
	}
	if err := h.Put(item(4, 7, 6)); err != api.ErrFull {
		t.Errorf("Put = %d", err)
	}
	h.Drop(6)
	want(t, h, item(3, 7, 6))
	if err := h.Put(item(4, 7, 6)); err != api.OK {
		t.Errorf("Put behind a Drop = %d", err)
	}
	if err := h.Put(item(5, 7, 6)); err != api.ErrFull {
		t.Errorf("Put = %d", err)
	}
	want(t, h, item(3, 7, 6), item(4, 7, 6))
}

// What is there is told by the Id and the Text alone, by both of them.
func TestPutOfWhatIsThere(t *testing.T) {
	first := hold.Item{Id: id(1), Wait: id(2), Depth: 3, Text: "ab"}
	for _, x := range []struct {
		y   hold.Item
		err api.Errno
	}{
		{first, api.ErrThere},
		{hold.Item{Id: id(1), Wait: id(9), Depth: 3, Text: "ab"}, api.ErrThere},
		{hold.Item{Id: id(1), Wait: id(2), Depth: 4, Text: "ab"}, api.ErrThere},
		{hold.Item{Id: id(1), Text: "ab"}, api.ErrThere},
		{hold.Item{Id: id(1), Wait: id(2), Depth: 3, Text: "ac"}, api.OK},
		{hold.Item{Id: id(1), Wait: id(2), Depth: 3, Text: "a"}, api.OK},
		{hold.Item{Id: id(1), Wait: id(2), Depth: 3, Text: "abc"}, api.OK},
		{hold.Item{Id: id(1), Wait: id(2), Depth: 3, Text: "ab\x00"}, api.OK},
		{hold.Item{Id: id(1), Wait: id(2), Depth: 3}, api.OK},
		{hold.Item{Id: id(2), Wait: id(2), Depth: 3, Text: "ab"}, api.OK},
		{hold.Item{Id: api.Hash{1}, Wait: id(2), Depth: 3, Text: "ab"}, api.OK},
		{hold.Item{Wait: id(2), Depth: 3, Text: "ab"}, api.OK},
	} {
		h := holdOf(t, 3, first)
		if err := h.Put(x.y); err != x.err {
			t.Errorf("Put(%v) = %d, want %d", x.y, err, x.err)
		}
		if x.err == api.OK {
			want(t, h, first, x.y)
		} else {
			want(t, h, first)
		}
	}
}

// The last one is held against all that wait, and not against the first alone.
func TestPutOfWhatIsThereSomewhere(t *testing.T) {
	list := items(item(1, 7, 0), hold.Item{Id: id(1)}, item(2, 7, 0), hold.Item{Id: id(2), Text: "b"}, hold.Item{})
	h := holdOf(t, 9, list...)
	for _, x := range list {
		x.Depth, x.Wait = 8, id(8)
		if err := h.Put(x); err != api.ErrThere {
			t.Errorf("Put(%v) = %d", x, err)
		}
	}
	want(t, h, list...)
}

func TestThereAheadOfFull(t *testing.T) {
	h := holdOf(t, 2, item(1, 7, 0), item(2, 7, 0))
	for n := range 4 {
		wanted := api.ErrFull
		if n == 1 || n == 2 {
			wanted = api.ErrThere
		}
		if err := h.Put(item(n, 7, 0)); err != wanted {
			t.Errorf("Put(%d) = %d, want %d", n, err, wanted)
		}
	}
	want(t, h, item(1, 7, 0), item(2, 7, 0))
}

// What came out, or was dropped, may be put again.
func TestPutAgain(t *testing.T) {
	h := holdOf(t, 2, item(1, 7, 0), item(2, 8, 1))
	h.Take(id(7))
	if err := h.Put(item(1, 7, 0)); err != api.OK {
		t.Errorf("Put behind a Take = %d", err)
	}
	want(t, h, item(2, 8, 1), item(1, 7, 0))
	h.Drop(1)
	if err := h.Put(item(1, 7, 0)); err != api.OK {
		t.Errorf("Put behind a Drop = %d", err)
	}
	want(t, h, item(2, 8, 1), item(1, 7, 0))
}

// Nothing is asked of an item's fields.
func TestPutTakesAnyItem(t *testing.T) {
	list := items(
		hold.Item{},
		hold.Item{Id: id(1), Wait: id(1)},
		hold.Item{Id: id(2), Depth: math.MinInt},
		hold.Item{Id: id(3), Depth: -1},
		hold.Item{Id: id(4), Depth: api.MaxNum + 1},
		hold.Item{Id: id(5), Depth: math.MaxInt},
		hold.Item{Id: id(6), Text: "\xff\x00\xc3"},
		hold.Item{Id: id(7), Text: strings.Repeat("x", api.MaxText)},
		hold.Item{Id: id(8), Text: strings.Repeat("x", 1<<20)},
	)
	want(t, holdOf(t, len(list), list...), list...)
}

// The rules: what is handed in isn't kept.

func TestAnItemIsACopy(t *testing.T) {
	x := item(1, 7, 3)
	bytes := []byte("some text")
	x.Text = string(bytes)
	kept := x
	h := holdOf(t, 2, x)
	bytes[0] = 'x'
	x.Id, x.Wait, x.Depth, x.Text = id(5), id(6), 7, "another"
	want(t, h, kept)
}

// Two holds know nothing of each other.
func TestHoldsStandApart(t *testing.T) {
	a, b := holdOf(t, 2, item(1, 7, 0)), holdOf(t, 1, item(1, 7, 0))
	if err := a.Put(item(2, 7, 0)); err != api.OK {
		t.Errorf("Put = %d", err)
	}
	b.Take(id(7))
	want(t, a, item(1, 7, 0), item(2, 7, 0))
	want(t, b)
}
