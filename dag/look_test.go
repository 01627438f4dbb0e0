package dag_test

import (
	"iter"
	"slices"
	"testing"

	"bevy/api"
	"bevy/dag"
)

// Promise 15.2: Get, Head, Floor, Len, All.

func TestNoVertices(t *testing.T) {
	var none *dag.Store[int]
	for _, s := range []*dag.Store[int]{none, storeOf(t, 5)} {
		if v, ok := s.Get(id(0)); ok || v != (vertex{}) {
			t.Errorf("Get = %v, %t", v, ok)
		}
		if v, ok := s.Head(); ok || v != (vertex{}) {
			t.Errorf("Head = %v, %t", v, ok)
		}
		if s.Floor() != 0 || s.Len() != 0 {
			t.Errorf("Floor, Len = %d, %d", s.Floor(), s.Len())
		}
		all := s.All()
		if all == nil {
			t.Fatal("All can't be gone over")
		}
		for v := range all {
			t.Errorf("All: %v", v)
		}
		for _, h := range ids(0, 1) {
			if list := s.Chain(h); len(list) != 0 {
				t.Errorf("Chain = %x", list)
			}
			if a, b := s.Apart(h, id(0)); len(a) != 0 || len(b) != 0 {
				t.Errorf("Apart = %x, %x", a, b)
			}
		}
	}
}

func TestGet(t *testing.T) {
	s := storeOf(t, 9, vert(1, 0, 0), vert(2, 1, 1), vert(300, 1, 1))
	for _, v := range []vertex{vert(1, 0, 0), vert(2, 1, 1), vert(300, 1, 1)} {
		if got, ok := s.Get(v.Id); !ok || got != v {
			t.Errorf("Get = %v, %t, want %v", got, ok, v)
		}
	}
	for _, n := range []int{0, 3, 301, 1 << 40} {
		if got, ok := s.Get(id(n)); ok || got != (vertex{}) {
			t.Errorf("Get(%d) = %v, %t", n, got, ok)
		}
	}
	// Each byte of an Id counts.
	for at := range 32 {
		other := id(2)
		other[at] ^= 64
		if got, ok := s.Get(other); ok || got != (vertex{}) {
			t.Errorf("Get(%x) = %v, %t", other, got, ok)
		}
	}
}

func TestHeadIsTheDeepestOfLeastId(t *testing.T) {
	s := storeOf(t, 2)
	for _, x := range []struct {
		v    vertex
		head int
	}{
		{vert(50, 0, 0), 50},
		{vert(60, 0, 0), 50},
		{vert(40, 0, 0), 40},
		{vert(90, 60, 1), 90},
		{vert(10, 0, 0), 90},
		{vert(95, 40, 1), 90},
		{vert(70, 50, 1), 70},
		{vert(71, 50, 1), 70},
		{vert(99, 95, 2), 99},
		{vert(2, 10, 1), 99},
		{vert(3, 2, 2), 3},
		{vert(256, 3, 3), 256},
		{vert(257, 3, 3), 256},
		{vert(255, 3, 3), 255},
	} {
		if _, err := s.Insert(x.v); err != api.OK {
			t.Fatalf("Insert(%v) = %d", x.v, err)
		}
		wantHead(t, s, x.head)
	}
}

// Of Ids the first byte counts most, and bytes above 127 are the later ones.
func TestHeadByBytes(t *testing.T) {
	s, _ := dag.New[int](1)
	for _, x := range []struct {
		id   api.Hash
		head bool
	}{
		{api.Hash{0x80}, true},
		{api.Hash{0xff, 0, 1}, false},
		{api.Hash{0x80, 1}, false},
		{api.Hash{0x7f, 255, 255}, true},
		{api.Hash{0x7f, 255, 254, 31: 255}, true},
		{api.Hash{0x7f, 255, 254, 31: 254}, true},
		{api.Hash{0, 31: 1}, true},
		{api.Hash{}, true},
	} {
		before, _ := s.Head()
		if _, err := s.Insert(dag.Vertex[int]{Id: x.id, Parent: api.Hash{1}, Depth: 4}); err != api.OK {
			t.Fatalf("Insert(%x) = %d", x.id, err)
		}
		wanted := before.Id
		if x.head {
			wanted = x.id
		}
		if v, ok := s.Head(); !ok || v.Id != wanted {
			t.Errorf("Head = %x, want %x", v.Id, wanted)
		}
	}
}

func TestFloorIsTheHeadsDepthLessKeep(t *testing.T) {
	for _, x := range [][3]int{{1, 0, 0}, {1, 1, 0}, {1, 2, 1}, {64, 64, 0}, {64, 65, 1}, {10, 9, 0}, {10, 31, 21}, {3, 1<<62 - 1, 1<<62 - 4}} {
		s := storeOf(t, x[0], vert(1, 0, x[1]))
		if s.Floor() != x[2] {
			t.Errorf("keep %d, depth %d: the floor is %d", x[0], x[1], s.Floor())
		}
		if _, err := s.Insert(vert(2, 0, x[2])); err != api.OK || s.Floor() != x[2] {
			t.Errorf("Insert on the floor = %d, which is %d then", err, s.Floor())
		}
	}
}

func TestAllInTheirOrder(t *testing.T) {
	s := storeOf(t, 9, vert(7, 0, 3), vert(300, 0, 1), vert(255, 0, 1), vert(9, 0, 0), vert(6, 0, 3), vert(1, 0, 2))
	want(t, s, 9, 255, 300, 1, 6, 7)
	if got := slices.Collect(s.All()); got[1] != vert(255, 0, 1) || got[5] != vert(7, 0, 3) {
		t.Errorf("All = %v", got)
	}
}

func TestAllEndsWhereItIsLeft(t *testing.T) {
	s := storeOf(t, 9, vert(1, 0, 0), vert(2, 1, 1), vert(3, 2, 2))
	for most := 1; most <= 4; most++ {
		met := 0
		for v := range s.All() {
			met++
			if v.Id != id(met) {
				t.Errorf("All: %v as number %d", v, met)
			}
			if met == most {
				break
			}
		}
		if met != min(most, 3) {
			t.Errorf("%d of them, want %d", met, most)
		}
	}
	met := 0
	s.All()(func(vertex) bool { met++; return false })
	if met != 1 {
		t.Errorf("it went on %d times", met)
	}
}

// What was asked for once tells what is there whenever it is gone over.
func TestAllAsTheyAreThen(t *testing.T) {
	s := storeOf(t, 1)
	all := s.All()
	hold := func(numbers ...int) {
		t.Helper()
		for range 2 {
			if got := idsOf(slices.Collect(all)); !slices.Equal(got, ids(numbers...)) {
				t.Errorf("All = %x, want %d", got, numbers)
			}
		}
	}
	hold()
	s.Insert(vert(2, 0, 0))
	hold(2)
	s.Insert(vert(1, 0, 0))
	hold(1, 2)
	s.Insert(vert(4, 2, 1))
	hold(1, 2, 4)
	s.Insert(vert(3, 4, 2))
	hold(4, 3)
}

// Two goings over don't disturb each other, nor does what comes or goes on the way.
func TestAllOnTheWay(t *testing.T) {
	s := storeOf(t, 1, vert(1, 0, 0), vert(2, 1, 1))
	next, stop := iter.Pull(s.All())
	defer stop()
	if v, ok := next(); !ok || v.Id != id(1) {
		t.Errorf("the first is %v", v)
	}
	want(t, s, 1, 2)
	if v, ok := next(); !ok || v.Id != id(2) {
		t.Errorf("the second is %v", v)
	}
	if v, ok := next(); ok {
		t.Errorf("the third is %v", v)
	}
	var met []api.Hash
	for v := range s.All() {
		met = append(met, v.Id)
		s.Insert(vert(10+v.Depth, 2, 2))
	}
	if !slices.Equal(met, ids(1, 2)) {
		t.Errorf("All = %x", met)
	}
	want(t, s, 2, 10, 11)
}

// Promise 15.3: Chain, Apart.

// forked is two forks of one chain, the first one forked again, and a chain apart.
func forked(t *testing.T) *dag.Store[int] {
	t.Helper()
	return storeOf(t, 64,
		vert(1, 0, 0), vert(2, 1, 1), vert(3, 2, 2),
		vert(9, 3, 3), vert(8, 9, 4), vert(7, 8, 5),
		vert(4, 3, 3), vert(5, 4, 4),
		vert(6, 9, 4),
		vert(20, 0, 0), vert(21, 20, 1))
}

func TestChain(t *testing.T) {
	s := forked(t)
	for _, x := range [][]int{
		{1}, {2, 1}, {3, 2, 1}, {9, 3, 2, 1}, {7, 8, 9, 3, 2, 1}, {5, 4, 3, 2, 1}, {6, 9, 3, 2, 1}, {20}, {21, 20},
	} {
		if got := s.Chain(id(x[0])); !slices.Equal(got, ids(x...)) {
			t.Errorf("Chain(%d) = %x, want %d", x[0], got, x)
		}
	}
	for _, n := range []int{0, 10, 22} {
		if got := s.Chain(id(n)); len(got) != 0 {
			t.Errorf("Chain(%d) = %x", n, got)
		}
	}
}

func TestApart(t *testing.T) {
	s := forked(t)
	for _, x := range []struct {
		a, b     int
		ofA, ofB []int
	}{
		{7, 5, []int{7, 8, 9}, []int{5, 4}},
		{7, 6, []int{7, 8}, []int{6}},
		{6, 4, []int{6, 9}, []int{4}},
		{7, 7, nil, nil},
		{1, 1, nil, nil},
		{7, 3, []int{7, 8, 9}, nil},
		{7, 1, []int{7, 8, 9, 3, 2}, nil},
		{5, 21, []int{5, 4, 3, 2, 1}, []int{21, 20}},
		{1, 20, []int{1}, []int{20}},
		{6, 99, []int{6, 9, 3, 2, 1}, nil},
		{98, 99, nil, nil},
		{0, 0, nil, nil},
	} {
		ofA, ofB := s.Apart(id(x.a), id(x.b))
		if !slices.Equal(ofA, ids(x.ofA...)) || !slices.Equal(ofB, ids(x.ofB...)) {
			t.Errorf("Apart(%d, %d) = %x, %x", x.a, x.b, ofA, ofB)
		}
		ofB, ofA = s.Apart(id(x.b), id(x.a))
		if !slices.Equal(ofA, ids(x.ofA...)) || !slices.Equal(ofB, ids(x.ofB...)) {
			t.Errorf("Apart(%d, %d) = %x, %x", x.b, x.a, ofB, ofA)
		}
	}
}

// A chain ends where somebody isn't there yet, and goes on as soon as he is.
func TestChainOverAHole(t *testing.T) {
	s := storeOf(t, 64, vert(1, 0, 0), vert(2, 1, 1), vert(4, 3, 3), vert(5, 4, 4), vert(6, 3, 3))
	if got := s.Chain(id(5)); !slices.Equal(got, ids(5, 4)) {
		t.Errorf("Chain = %x", got)
	}
	if a, b := s.Apart(id(5), id(2)); !slices.Equal(a, ids(5, 4)) || !slices.Equal(b, ids(2, 1)) {
		t.Errorf("Apart = %x, %x", a, b)
	}
	// They have a Parent of one Id, but it isn't there.
	if a, b := s.Apart(id(5), id(6)); !slices.Equal(a, ids(5, 4)) || !slices.Equal(b, ids(6)) {
		t.Errorf("Apart = %x, %x", a, b)
	}
	s.Insert(vert(3, 2, 2))
	if got := s.Chain(id(5)); !slices.Equal(got, ids(5, 4, 3, 2, 1)) {
		t.Errorf("Chain = %x", got)
	}
	if a, b := s.Apart(id(5), id(2)); !slices.Equal(a, ids(5, 4, 3)) || len(b) != 0 {
		t.Errorf("Apart = %x, %x", a, b)
	}
	if a, b := s.Apart(id(5), id(6)); !slices.Equal(a, ids(5, 4)) || !slices.Equal(b, ids(6)) {
		t.Errorf("Apart = %x, %x", a, b)
	}
}

// It ends, too, where somebody is gone.
func TestChainEndsAtTheFloor(t *testing.T) {
	s := storeOf(t, 2, vert(1, 0, 0), vert(2, 1, 1), vert(9, 1, 1), vert(3, 2, 2), vert(4, 9, 2))
	if a, b := s.Apart(id(3), id(4)); !slices.Equal(a, ids(3, 2)) || !slices.Equal(b, ids(4, 9)) {
		t.Errorf("Apart = %x, %x", a, b)
	}
	s.Insert(vert(5, 3, 3))
	if got := s.Chain(id(5)); !slices.Equal(got, ids(5, 3, 2)) {
		t.Errorf("Chain = %x", got)
	}
	s.Insert(vert(6, 5, 4))
	if got := s.Chain(id(4)); !slices.Equal(got, ids(4)) {
		t.Errorf("Chain = %x", got)
	}
	if got := s.Chain(id(2)); len(got) != 0 {
		t.Errorf("Chain = %x", got)
	}
	if a, b := s.Apart(id(6), id(4)); !slices.Equal(a, ids(6, 5, 3)) || !slices.Equal(b, ids(4)) {
		t.Errorf("Apart = %x, %x", a, b)
	}
}

// The rules: what is handed out is new memory.

func TestAnswersShareNothing(t *testing.T) {
	s := forked(t)
	whole, kept := s.Chain(id(7)), s.Chain(id(7))
	soil(whole)
	if again := s.Chain(id(7)); !slices.Equal(again, kept) {
		t.Errorf("Chain = %x, want %x", again, kept)
	}
	a, b := s.Apart(id(7), id(5))
	wantB := slices.Clone(b)
	soil(a)
	if !slices.Equal(b, wantB) {
		t.Errorf("Apart's lists share memory")
	}
	if again, _ := s.Apart(id(7), id(5)); !slices.Equal(again, ids(7, 8, 9)) {
		t.Errorf("Apart = %x", again)
	}
	if got, ok := s.Get(id(7)); !ok || got != vert(7, 8, 5) {
		t.Errorf("Get = %v, %t", got, ok)
	}
	want(t, s, 1, 20, 2, 21, 3, 4, 9, 5, 6, 8, 7)
}

func TestGoneSharesNothing(t *testing.T) {
	s := storeOf(t, 1, vert(1, 0, 0), vert(2, 0, 0), vert(3, 1, 1))
	gone, _ := s.Insert(vert(4, 3, 2))
	if len(gone) != 2 {
		t.Fatalf("gone: %v", gone)
	}
	gone = gone[:cap(gone)]
	for at := range gone {
		gone[at] = vert(77, 78, 79)
	}
	want(t, s, 3, 4)
	if v, ok := s.Get(id(77)); ok {
		t.Errorf("Get = %v", v)
	}
}

// What a vertex that was handed out has is a copy, too.
func TestAVertexIsACopy(t *testing.T) {
	s := storeOf(t, 1, vert(1, 0, 0))
	v, _ := s.Get(id(1))
	v.Depth, v.Data = 8, 9
	h, _ := s.Head()
	h.Parent = id(5)
	for v := range s.All() {
		v.Id = id(6)
	}
	if got, ok := s.Get(id(1)); !ok || got != vert(1, 0, 0) {
		t.Errorf("Get = %v, %t", got, ok)
	}
}

// Two stores know nothing of each other.
func TestStoresStandApart(t *testing.T) {
	a, b := storeOf(t, 1, vert(1, 0, 0)), storeOf(t, 2, vert(2, 0, 0))
	a.Insert(vert(3, 1, 1))
	a.Insert(vert(4, 3, 2))
	want(t, a, 3, 4)
	want(t, b, 2)
	wantHead(t, b, 2)
}

// soil writes into a list, and into its spare room.
func soil(list []api.Hash) {
	list = list[:cap(list)]
	for at := range list {
		list[at] = id(12345)
	}
}
