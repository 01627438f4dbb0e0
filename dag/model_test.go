package dag_test

import (
	"bytes"
	"encoding/binary"
	"math/rand"
	"slices"
	"testing"

	"bevy/api"
	"bevy/dag"
)

// vertex is one whose Data tells how often it was made, so that two of one Id can be told apart.
type vertex = dag.Vertex[int]

// id is an Id of which greater numbers make later ones.
func id(n int) api.Hash {
	var h api.Hash
	binary.BigEndian.PutUint64(h[24:], uint64(n))
	return h
}

func ids(numbers ...int) []api.Hash {
	var list []api.Hash
	for _, n := range numbers {
		list = append(list, id(n))
	}
	return list
}

func vert(n, parent, depth int) vertex {
	return vertex{Id: id(n), Parent: id(parent), Depth: depth, Data: 1000*n + depth}
}

// plain is a store told in the chapter's words: a list, gone through for whatever is asked.
type plain struct {
	keep int
	list []vertex
}

func (p *plain) floor() int {
	deepest := 0
	for _, v := range p.list {
		deepest = max(deepest, v.Depth)
	}
	return max(deepest-p.keep, 0)
}

func (p *plain) get(id api.Hash) (vertex, bool) {
	for _, v := range p.list {
		if v.Id == id {
			return v, true
		}
	}
	return vertex{}, false
}

func (p *plain) check(v vertex) api.Errno {
	if v.Depth < 0 || v.Depth > 1<<62-1 || v.Parent == v.Id {
		return api.ErrArg
	}
	if _, ok := p.get(v.Id); ok {
		return api.ErrThere
	}
	if v.Depth < p.floor() {
		return api.ErrOld
	}
	for _, other := range p.list {
		if other.Id == v.Parent && v.Depth-other.Depth != 1 || other.Parent == v.Id && other.Depth-v.Depth != 1 {
			return api.ErrDepth
		}
	}
	return api.OK
}

func (p *plain) insert(v vertex) ([]vertex, api.Errno) {
	if err := p.check(v); err != api.OK {
		return nil, err
	}
	p.list = append(p.list, v)
	var kept, gone []vertex
	for _, v := range p.all() {
		if v.Depth < p.floor() {
			gone = append(gone, v)
		} else {
			kept = append(kept, v)
		}
	}
	p.list = kept
	return gone, api.OK
}

// all is all of them in their order, by taking the least one out again and again.
func (p *plain) all() []vertex {
	left := slices.Clone(p.list)
	var list []vertex
	for len(left) > 0 {
		least := 0
		for at, v := range left {
			if v.Depth < left[least].Depth || v.Depth == left[least].Depth && bytes.Compare(v.Id[:], left[least].Id[:]) < 0 {
				least = at
			}
		}
		list = append(list, left[least])
		left = slices.Delete(left, least, least+1)
	}
	return list
}

func (p *plain) head() (vertex, bool) {
	var head vertex
	for at, v := range p.list {
		if at == 0 || v.Depth > head.Depth || v.Depth == head.Depth && bytes.Compare(v.Id[:], head.Id[:]) < 0 {
			head = v
		}
	}
	return head, len(p.list) > 0
}

func (p *plain) chain(id api.Hash) []api.Hash {
	v, ok := p.get(id)
	if !ok {
		return nil
	}
	return append([]api.Hash{id}, p.chain(v.Parent)...)
}

// apart is what of one chain isn't in another.
func (p *plain) apart(a, b api.Hash) []api.Hash {
	var list []api.Hash
	other := p.chain(b)
	for _, h := range p.chain(a) {
		if !slices.Contains(other, h) {
			list = append(list, h)
		}
	}
	return list
}

// agree holds all that a store tells of itself and of some Ids against the plain one.
func agree(t *testing.T, s *dag.Store[int], p *plain, about ...api.Hash) {
	t.Helper()
	if s.Len() != len(p.list) || s.Floor() != p.floor() {
		t.Fatalf("Len, Floor = %d, %d, want %d, %d", s.Len(), s.Floor(), len(p.list), p.floor())
	}
	if got := slices.Collect(s.All()); !slices.Equal(got, p.all()) {
		t.Fatalf("All = %v, want %v", got, p.all())
	}
	wanted, has := p.head()
	if got, ok := s.Head(); got != wanted || ok != has {
		t.Fatalf("Head = %v, %t, want %v, %t", got, ok, wanted, has)
	}
	for _, a := range about {
		wanted, has := p.get(a)
		if got, ok := s.Get(a); got != wanted || ok != has {
			t.Fatalf("Get(%x) = %v, %t, want %v, %t", a, got, ok, wanted, has)
		}
		if got := s.Chain(a); !slices.Equal(got, p.chain(a)) {
			t.Fatalf("Chain(%x) = %x, want %x", a, got, p.chain(a))
		}
		for _, b := range about {
			ofA, ofB := s.Apart(a, b)
			if !slices.Equal(ofA, p.apart(a, b)) || !slices.Equal(ofB, p.apart(b, a)) {
				t.Fatalf("Apart(%x, %x) = %x, %x", a, b, ofA, ofB)
			}
		}
	}
}

// both puts a vertex into a store and into the plain one, and holds their answers against each other, and that of Check, which is asked ahead.
func both(t *testing.T, s *dag.Store[int], p *plain, v vertex) api.Errno {
	t.Helper()
	checked := s.Check(v)
	wanted, err := p.insert(v)
	gone, e := s.Insert(v)
	if e != err || checked != err || !slices.Equal(gone, wanted) {
		t.Fatalf("Insert(%v) = %v, %d (Check: %d), want %v, %d", v, gone, e, checked, wanted, err)
	}
	return err
}

// storeOf is a store with what must be taken.
func storeOf(t *testing.T, keep int, list ...vertex) *dag.Store[int] {
	t.Helper()
	s, err := dag.New[int](keep)
	if err != api.OK {
		t.Fatalf("New(%d) = %d", keep, err)
	}
	for _, v := range list {
		if _, err := s.Insert(v); err != api.OK {
			t.Fatalf("Insert(%v) = %d", v, err)
		}
	}
	return s
}

// want holds the Ids of all that is there, in their order, against the numbers.
func want(t *testing.T, s *dag.Store[int], numbers ...int) {
	t.Helper()
	if got := idsOf(slices.Collect(s.All())); !slices.Equal(got, ids(numbers...)) {
		t.Errorf("All = %x, want %d", got, numbers)
	}
	if s.Len() != len(numbers) {
		t.Errorf("Len = %d, want %d", s.Len(), len(numbers))
	}
}

// wantHead holds the head's Id against a number.
func wantHead(t *testing.T, s *dag.Store[int], number int) {
	t.Helper()
	if v, ok := s.Head(); !ok || v.Id != id(number) {
		t.Errorf("Head = %v, %t, want %d", v, ok, number)
	}
}

func idsOf(list []vertex) []api.Hash {
	var made []api.Hash
	for _, v := range list {
		made = append(made, v.Id)
	}
	return made
}

// grown is vertices of which each but the first stands behind one of those ahead of it, numbered in any order.
func grown(r *rand.Rand, many int) []vertex {
	names := r.Perm(many)
	list := []vertex{vert(names[0]+1, 0, 0)}
	for _, name := range names[1:] {
		// Rather behind one that came late, so that chains become long.
		parent := list[len(list)-1-r.Intn(min(len(list), 4))]
		v := vert(name+1, 0, parent.Depth+1)
		v.Parent = parent.Id
		list = append(list, v)
	}
	return list
}

// inOrder is the same by rising Depths: so none is too old when it comes.
func inOrder(list []vertex) []vertex {
	return (&plain{list: list}).all()
}

// shuffled is the same in any order.
func shuffled(r *rand.Rand, list []vertex) []vertex {
	made := slices.Clone(list)
	r.Shuffle(len(made), func(i, j int) { made[i], made[j] = made[j], made[i] })
	return made
}
