package dag_test

import (
	"encoding/binary"
	"math/rand"
	"slices"
	"testing"

	"bevy/api"
	"bevy/dag"
)

// Promise 15.4: what holds in whatever order vertices come.

func TestAnyOrderLeavesTheSame(t *testing.T) {
	list := []vertex{vert(4, 0, 0), vert(2, 4, 1), vert(6, 4, 1), vert(5, 2, 2), vert(1, 6, 2), vert(3, 1, 3), vert(7, 5, 3)}
	for _, order := range permutations(len(list)) {
		s := storeOf(t, 64)
		for _, at := range order {
			if gone, err := s.Insert(list[at]); len(gone) != 0 || err != api.OK {
				t.Fatalf("Insert(%v) = %v, %d", list[at], gone, err)
			}
		}
		want(t, s, 4, 2, 6, 1, 5, 3, 7)
		wantHead(t, s, 3)
		if a, b := s.Apart(id(7), id(3)); !slices.Equal(a, ids(7, 5, 2)) || !slices.Equal(b, ids(3, 1, 6)) {
			t.Fatalf("Apart = %x, %x", a, b)
		}
	}
}

// With few depths that are kept, those orders count by which none is too old when it comes.
func TestAnyOrderInTimeLeavesTheSame(t *testing.T) {
	r := rand.New(rand.NewSource(3))
	in, out := 0, 0
	for range 400 {
		keep := 1 + r.Intn(5)
		list := grown(r, 3+r.Intn(10))
		s := storeOf(t, keep, inOrder(list)...)
		head, _ := s.Head()
		left, chain := slices.Collect(s.All()), s.Chain(head.Id)
		for range 20 {
			again, gone, ok := inTime(t, keep, shuffled(r, list))
			if !ok {
				out++
				continue
			}
			in++
			if got, _ := again.Head(); got != head || again.Floor() != s.Floor() {
				t.Fatalf("Head, Floor = %v, %d, want %v, %d", got, again.Floor(), head, s.Floor())
			}
			if got := slices.Collect(again.All()); !slices.Equal(got, left) || !slices.Equal(again.Chain(head.Id), chain) {
				t.Fatalf("All = %v, want %v", got, left)
			}
			if gone != len(list)-len(left) {
				t.Fatalf("%d are gone, want %d", gone, len(list)-len(left))
			}
		}
	}
	if in < 500 || out < 500 {
		t.Errorf("%d orders in time, %d others", in, out)
	}
}

// inTime puts all in, as long as none is too old, and tells how many went.
func inTime(t *testing.T, keep int, list []vertex) (*dag.Store[int], int, bool) {
	t.Helper()
	s := storeOf(t, keep)
	went := 0
	for _, v := range list {
		gone, err := s.Insert(v)
		if err == api.ErrOld {
			return nil, 0, false
		}
		if err != api.OK {
			t.Fatalf("Insert(%v) = %d", v, err)
		}
		went += len(gone)
	}
	return s, went, true
}

func TestTheHeadIsNeverGone(t *testing.T) {
	r := rand.New(rand.NewSource(4))
	for range 200 {
		s := storeOf(t, 1+r.Intn(3))
		for range 60 {
			gone, err := s.Insert(vert(r.Intn(40), r.Intn(40), r.Intn(30)))
			if err != api.OK {
				continue
			}
			head, ok := s.Head()
			if got, there := s.Get(head.Id); !ok || !there || got != head {
				t.Fatalf("the head is %v, %t", head, ok)
			}
			if slices.Contains(idsOf(gone), head.Id) {
				t.Fatalf("the head %v is gone", head)
			}
		}
	}
}

func TestChainsWithOneInCommonHaveAllBehindItInCommon(t *testing.T) {
	r := rand.New(rand.NewSource(5))
	common := 0
	for range 100 {
		list := grown(r, 30)
		s := storeOf(t, 1+r.Intn(12), inOrder(list)...)
		for range 100 {
			a, b := list[r.Intn(len(list))].Id, list[r.Intn(len(list))].Id
			ofA, ofB := s.Chain(a), s.Chain(b)
			restA, restB := s.Apart(a, b)
			// What isn't apart stands behind it, and is the same.
			if !slices.Equal(ofA[:len(restA)], restA) || !slices.Equal(ofB[:len(restB)], restB) {
				t.Fatalf("Apart = %x, %x of %x, %x", restA, restB, ofA, ofB)
			}
			if !slices.Equal(ofA[len(restA):], ofB[len(restB):]) {
				t.Fatalf("the chains %x, %x have no end in common", ofA, ofB)
			}
			common += len(ofA) - len(restA)
		}
	}
	if common == 0 {
		t.Error("no chains had anything in common")
	}
}

// All together.

func TestLikeThePlainOne(t *testing.T) {
	r := rand.New(rand.NewSource(6))
	met := map[api.Errno]int{}
	for range 300 {
		keep, most, deepest := 1+r.Intn(6), 4+r.Intn(12), 3+r.Intn(20)
		s, p := storeOf(t, keep), &plain{keep: keep}
		for range 40 {
			v := vert(r.Intn(most), r.Intn(most), r.Intn(deepest+2)-1)
			if parent, ok := p.get(v.Parent); ok && r.Intn(3) > 0 {
				v.Depth = parent.Depth + 1
			}
			met[both(t, s, p, v)]++
		}
		agree(t, s, p, numbered(most)...)
	}
	for _, err := range []api.Errno{api.OK, api.ErrArg, api.ErrThere, api.ErrOld, api.ErrDepth} {
		if met[err] < 100 {
			t.Errorf("the answer %d came %d times", err, met[err])
		}
	}
}

func TestShuffledLikeThePlainOne(t *testing.T) {
	r := rand.New(rand.NewSource(7))
	for range 60 {
		keep := 1 + r.Intn(20)
		list := grown(r, 25)
		s, p := storeOf(t, keep), &plain{keep: keep}
		for _, v := range shuffled(r, list) {
			both(t, s, p, v)
		}
		agree(t, s, p, idsOf(list)...)
	}
}

// numbered are the first Ids.
func numbered(many int) []api.Hash {
	var list []api.Hash
	for n := range many {
		list = append(list, id(n))
	}
	return list
}

func FuzzLikeThePlainOne(f *testing.F) {
	f.Add([]byte{1, 1, 0, 0, 2, 1, 1, 3, 2, 2})
	f.Add([]byte{3, 1, 9, 5, 2, 9, 7, 9, 8, 4, 9, 8, 6})
	f.Add([]byte{64, 0, 3, 2, 1, 0, 0, 1, 0, 3})
	f.Fuzz(func(t *testing.T, bytes []byte) {
		if len(bytes) == 0 || len(bytes) > 200 {
			return
		}
		keep := 1 + int(bytes[0])%64
		s, p := storeOf(t, keep), &plain{keep: keep}
		for at := 1; at+2 < len(bytes); at += 3 {
			both(t, s, p, vert(int(bytes[at])%24, int(bytes[at+1])%24, int(bytes[at+2])-1))
		}
		agree(t, s, p, numbered(24)...)
	})
}

// Many vertices.

// wide is an Id whose order has nothing to do with its number.
func wide(n int) api.Hash {
	h := id(n)
	binary.BigEndian.PutUint64(h[:8], uint64(n)*0x9e3779b97f4a7c15)
	return h
}

func TestManyOnOneDepth(t *testing.T) {
	const many = 1 << 16
	s := storeOf(t, 2)
	least := wide(0)
	for n := range many {
		v := vertex{Id: wide(n), Parent: id(1), Depth: 7, Data: n}
		if gone, err := s.Insert(v); len(gone) != 0 || err != api.OK {
			t.Fatalf("Insert = %v, %d", gone, err)
		}
		if string(v.Id[:]) < string(least[:]) {
			least = v.Id
		}
		if head, ok := s.Head(); !ok || head.Id != least {
			t.Fatalf("Head = %v, %t", head, ok)
		}
	}
	for range many {
		if err := s.Check(vert(1, 0, 5)); err != api.ErrDepth {
			t.Fatalf("Check = %d", err)
		}
	}
	if gone, err := s.Insert(vert(2, 5, 9)); len(gone) != 0 || err != api.OK || s.Len() != many+1 {
		t.Errorf("Insert = %d gone, %d", len(gone), err)
	}
	gone, err := s.Insert(vert(3, 2, 10))
	if len(gone) != many || err != api.OK || s.Len() != 2 {
		t.Fatalf("Insert = %d gone, %d", len(gone), err)
	}
	if !slices.IsSortedFunc(gone, func(a, b vertex) int { return slices.Compare(a.Id[:], b.Id[:]) }) {
		t.Error("what went isn't in order")
	}
}

func TestALongChain(t *testing.T) {
	s := storeOf(t, 64)
	for n := range 1 << 16 {
		gone, err := s.Insert(vert(n+1, n, n))
		if err != api.OK || len(gone) != min(max(n-64, 0), 1) {
			t.Fatalf("Insert = %v, %d", gone, err)
		}
	}
	if list := s.Chain(id(1 << 16)); len(list) != 65 || list[64] != id(1<<16-64) {
		t.Errorf("a chain of %d", len(list))
	}
	if a, b := s.Apart(id(1<<16), id(1<<16-3)); len(a) != 3 || len(b) != 0 {
		t.Errorf("Apart = %x, %x", a, b)
	}
}
