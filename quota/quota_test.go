package quota_test

import (
	"slices"
	"testing"

	"confidant/quota"
)

func TestP12_1_Store(t *testing.T) {
	s := quota.New[string]([]int{1, -1, 9})
	for _, c := range []struct {
		by    int
		thing string
		id    int32
		ok    bool
	}{{0, "a", 0, true}, {0, "b", 0, false}, {1, "c", 0, false}, {2, "d", 131072, true}, {2, "e", 131073, true}, {3, "f", 0, false}, {-1, "g", 0, false}} {
		if id, ok := s.Make(c.by, c.thing); id != c.id || ok != c.ok {
			t.Errorf("Make(%d, %s): %d, %v", c.by, c.thing, id, ok)
		}
	}
	if got, ok := s.Get(131073); got != "e" || !ok {
		t.Errorf("Get: %s, %v", got, ok)
	}
	if got, ok := s.Get(1); got != "" || ok {
		t.Errorf("Get of nothing: %s, %v", got, ok)
	}
	if s.Count(0) != 1 || s.Count(1) != 0 || s.Count(2) != 2 || s.Count(3) != 0 {
		t.Errorf("Count: %d, %d, %d, %d", s.Count(0), s.Count(1), s.Count(2), s.Count(3))
	}
}

// TestP12_1_Find: what it returns is the thing itself; what All returns is not.
func TestP12_1_Find(t *testing.T) {
	s := quota.New[string]([]int{2, 2})
	for _, thing := range []string{"a", "b"} {
		s.Make(1, thing)
	}
	*s.Find(65537) = "c"
	for _, id := range []int32{-1, 0, 65538, 131072} {
		if s.Find(id) != nil {
			t.Errorf("Find(%d): found", id)
		}
	}
	all := s.All()
	all[1][0] = "d"
	if again := s.All(); len(again) != 2 || len(again[0]) != 0 || !slices.Equal(again[1], []string{"a", "c"}) {
		t.Errorf("All: %v", again)
	}
}
