package hold_test

import (
	"math/rand"
	"slices"
	"strings"
	"testing"

	"bevy/api"
	"bevy/hold"
)

// Promise 16.3: what was put comes out just once, or was dropped, in order.

// step does one thing by three numbers, with both of a pair.
func (b pair) step(t *testing.T, kind, n, m int) {
	t.Helper()
	switch kind % 8 {
	case 0:
		b.take(t, id(n%5))
	case 1:
		b.drop(t, n%12-m%4)
	default:
		b.put(t, hold.Item{Id: id(n % 7), Wait: id(m % 5), Depth: n % 10, Text: strings.Repeat("x", m%3)})
	}
}

func TestLikeThePlainOne(t *testing.T) {
	r := rand.New(rand.NewSource(1))
	for range 400 {
		b := pairOf(t, r.Intn(14))
		for range 80 {
			b.step(t, r.Intn(16), r.Intn(100), r.Intn(100))
			agree(t, b.h, b.p, id(r.Intn(8)))
		}
	}
}

func TestLikeThePlainOneInGreatRooms(t *testing.T) {
	r := rand.New(rand.NewSource(2))
	met := map[api.Errno]int{}
	for _, room := range []int{0, 1, 2, 255, 256} {
		b := pairOf(t, room)
		for n := range 4000 {
			switch r.Intn(400) {
			case 0:
				b.drop(t, n-r.Intn(100))
			case 1, 2:
				b.take(t, id(r.Intn(9)))
			default:
				met[b.put(t, hold.Item{Id: id(n - n%5*r.Intn(2)), Wait: id(r.Intn(9)), Depth: n})]++
			}
		}
		agree(t, b.h, b.p, id(3999), id(3), id(3500))
	}
	for _, err := range []api.Errno{api.OK, api.ErrThere, api.ErrFull} {
		if met[err] < 100 {
			t.Errorf("the answer %d came %d times", err, met[err])
		}
	}
}

// Each that was put has a number of its own, by which it is counted.
func TestEachComesOutJustOnce(t *testing.T) {
	r := rand.New(rand.NewSource(3))
	for range 50 {
		h := holdOf(t, 1+r.Intn(40))
		put, out := []int{}, map[int]int{}
		last := map[api.Hash]int{} // of each Wait the number that came out last
		dropped := 0
		collect := func(wait api.Hash) {
			for _, x := range h.Take(wait) {
				n := number(x)
				out[n]++
				if x.Wait != wait || out[n] > 1 || n <= last[wait] {
					t.Fatalf("Take(%x): %v", wait, x)
				}
				last[wait] = n
			}
		}
		for n := 1; n <= 300; n++ {
			if h.Put(hold.Item{Id: id(n), Wait: id(r.Intn(6)), Depth: n / 10}) == api.OK {
				put = append(put, n)
			}
			if r.Intn(4) == 0 {
				collect(id(r.Intn(6)))
			}
			if r.Intn(20) == 0 {
				dropped += h.Drop(n/10 - 2)
			}
		}
		if len(put) != len(out)+dropped+h.Len() {
			t.Fatalf("%d were put, %d came out, %d were dropped, %d wait", len(put), len(out), dropped, h.Len())
		}
		for wait := range 6 {
			collect(id(wait))
		}
		if h.Len() != 0 || len(put) != len(out)+dropped {
			t.Fatalf("%d were put, %d came out, %d were dropped, %d wait", len(put), len(out), dropped, h.Len())
		}
		for n := range out {
			if !slices.Contains(put, n) {
				t.Fatalf("%d came out, and was never put", n)
			}
		}
	}
}

// number is the one of which id made the Id.
func number(x hold.Item) int {
	return int(x.Id[30])<<8 | int(x.Id[31])
}

func FuzzLikeThePlainOne(f *testing.F) {
	f.Add([]byte{3, 2, 1, 2, 3, 8, 9, 0, 2, 0})
	f.Add([]byte{0, 2, 1, 2, 3, 8, 9, 1, 9, 0})
	f.Add([]byte{9, 2, 1, 2, 3, 8, 9, 1, 5, 0, 4, 1, 2, 5, 1, 7})
	f.Fuzz(func(t *testing.T, bytes []byte) {
		if len(bytes) == 0 || len(bytes) > 400 {
			return
		}
		b := pairOf(t, int(bytes[0]))
		for at := 1; at+2 < len(bytes); at += 3 {
			b.step(t, int(bytes[at]), int(bytes[at+1]), int(bytes[at+2]))
		}
		agree(t, b.h, b.p, id(0), id(1), id(2), id(3), id(4), id(5), id(6), id(7))
	})
}
