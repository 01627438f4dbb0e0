package hold_test

import (
	"encoding/binary"
	"slices"
	"testing"

	"bevy/api"
	"bevy/hold"
)

// id is a digest of a number.
func id(n int) api.Hash {
	var h api.Hash
	binary.BigEndian.PutUint64(h[24:], uint64(n))
	return h
}

// item is one whose Text is its own.
func item(n, wait, depth int) hold.Item {
	return hold.Item{Id: id(n), Wait: id(wait), Depth: depth, Text: "text of " + string(rune('a'+n))}
}

func items(list ...hold.Item) []hold.Item { return list }

// entry is an item that was put, and whether it waits still.
type entry struct {
	x     hold.Item
	waits bool
}

// plain is a hold told in the chapter's words: a list of all that was ever put, of which some wait no more.
type plain struct {
	room int
	list []*entry
}

func (p *plain) all() []hold.Item {
	var list []hold.Item
	for _, e := range p.list {
		if e.waits {
			list = append(list, e.x)
		}
	}
	return list
}

func (p *plain) put(x hold.Item) api.Errno {
	for _, y := range p.all() {
		if y.Id == x.Id && y.Text == x.Text {
			return api.ErrThere
		}
	}
	if len(p.all()) == p.room {
		return api.ErrFull
	}
	p.list = append(p.list, &entry{x, true})
	return api.OK
}

func (p *plain) has(id api.Hash) bool {
	for _, x := range p.all() {
		if x.Id == id {
			return true
		}
	}
	return false
}

func (p *plain) take(wait api.Hash) []hold.Item {
	var list []hold.Item
	for _, e := range p.list {
		if e.waits && e.x.Wait == wait {
			e.waits = false
			list = append(list, e.x)
		}
	}
	return list
}

func (p *plain) drop(floor int) int {
	many := 0
	for _, e := range p.list {
		if e.waits && e.x.Depth < floor {
			e.waits = false
			many++
		}
	}
	return many
}

// agree holds all that a hold tells against the plain one.
func agree(t *testing.T, h *hold.Hold, p *plain, about ...api.Hash) {
	t.Helper()
	if got := h.All(); !slices.Equal(got, p.all()) {
		t.Fatalf("All = %v, want %v", got, p.all())
	}
	if h.Len() != len(p.all()) {
		t.Fatalf("Len = %d, want %d", h.Len(), len(p.all()))
	}
	for _, a := range about {
		if h.Has(a) != p.has(a) {
			t.Fatalf("Has(%x) = %t, want %t", a, h.Has(a), p.has(a))
		}
	}
}

// pair is a hold and the plain one, of which each is asked for the same.
type pair struct {
	h *hold.Hold
	p *plain
}

func pairOf(t *testing.T, room int) pair {
	t.Helper()
	return pair{holdOf(t, room), &plain{room: room}}
}

func (b pair) put(t *testing.T, x hold.Item) api.Errno {
	t.Helper()
	wanted := b.p.put(x)
	if err := b.h.Put(x); err != wanted {
		t.Fatalf("Put(%v) = %d, want %d", x, err, wanted)
	}
	return wanted
}

func (b pair) take(t *testing.T, wait api.Hash) []hold.Item {
	t.Helper()
	wanted := b.p.take(wait)
	got := b.h.Take(wait)
	if !slices.Equal(got, wanted) {
		t.Fatalf("Take(%x) = %v, want %v", wait, got, wanted)
	}
	return got
}

func (b pair) drop(t *testing.T, floor int) int {
	t.Helper()
	wanted := b.p.drop(floor)
	if many := b.h.Drop(floor); many != wanted {
		t.Fatalf("Drop(%d) = %d, want %d", floor, many, wanted)
	}
	return wanted
}

// holdOf is a hold with what must be taken.
func holdOf(t *testing.T, room int, list ...hold.Item) *hold.Hold {
	t.Helper()
	h, err := hold.New(room)
	if err != api.OK || h == nil {
		t.Fatalf("New(%d) = %v, %d", room, h, err)
	}
	for _, x := range list {
		if err := h.Put(x); err != api.OK {
			t.Fatalf("Put(%v) = %d", x, err)
		}
	}
	return h
}

// want holds all that waits against a list.
func want(t *testing.T, h *hold.Hold, list ...hold.Item) {
	t.Helper()
	if got := h.All(); !slices.Equal(got, list) {
		t.Errorf("All = %v, want %v", got, list)
	}
	if h.Len() != len(list) {
		t.Errorf("Len = %d, want %d", h.Len(), len(list))
	}
}
