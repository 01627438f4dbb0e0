package dag

import (
	"math/rand"
	"testing"

	"bevy/api"
)

// What is kept is no more than the vertices that are there need.
func TestNothingIsKeptOfWhatIsGone(t *testing.T) {
	r := rand.New(rand.NewSource(8))
	s, _ := New[int](3)
	for n := range 3000 {
		v := Vertex[int]{Id: api.Hash{byte(n >> 8), byte(n)}, Depth: n/20 + r.Intn(2)}
		v.Parent = api.Hash{byte(r.Intn(12)), byte(r.Intn(256))}
		s.Insert(v)
		held := 0
		for parent, depths := range s.behind {
			if len(depths) == 0 {
				t.Fatalf("nothing is behind %x, and it is kept", parent)
			}
			held += len(depths)
			for depth := range depths {
				if !has(s, parent, depth) {
					t.Fatalf("no vertex of the depth %d is behind %x", depth, parent)
				}
			}
		}
		if held > len(s.vertices) {
			t.Fatalf("%d depths of %d vertices are kept", held, len(s.vertices))
		}
	}
}

// has tells whether a vertex of some Parent and Depth is there.
func has(s *Store[int], parent api.Hash, depth int) bool {
	for _, v := range s.vertices {
		if v.Parent == parent && v.Depth == depth {
			return true
		}
	}
	return false
}
