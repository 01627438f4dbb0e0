package hold

import (
	"math/rand"
	"runtime"
	"strings"
	"testing"

	"bevy/api"
)

// Of what is out nothing is kept, not even in the room behind what waits.
func TestNothingIsKeptOfWhatIsOut(t *testing.T) {
	r := rand.New(rand.NewSource(4))
	h, _ := New(64)
	for n := range 4000 {
		h.Put(Item{Id: api.Hash{byte(n >> 8), byte(n), 1}, Wait: api.Hash{byte(r.Intn(9))}, Depth: n / 10, Text: "text"})
		switch r.Intn(9) {
		case 0:
			h.Take(api.Hash{byte(r.Intn(9))})
		case 1:
			h.Drop(n/10 - r.Intn(5))
		}
		spare := h.items[len(h.items):cap(h.items)]
		for _, x := range spare {
			if x != (Item{}) {
				t.Fatalf("%v is kept", x)
			}
		}
	}
}

// A text that is a small piece of a great one doesn't keep that one with it.
func TestNoGreatTextIsKept(t *testing.T) {
	const great = 1 << 20
	h, _ := New(64)
	before := inUse()
	for n := range 64 {
		h.Put(Item{Id: api.Hash{byte(n)}, Text: strings.Repeat("great ", great/6)[6:11]})
	}
	if grown := inUse() - before; grown > 8*great {
		t.Errorf("%d bytes more are kept", grown)
	}
	if all := h.All(); len(all) != 64 || all[63].Text != "great" {
		t.Errorf("All = %v", all)
	}
}

// inUse is how many bytes are kept by anybody.
func inUse() int64 {
	runtime.GC()
	var m runtime.MemStats
	runtime.ReadMemStats(&m)
	return int64(m.HeapAlloc)
}
