package arena_test

import (
	"math"
	"slices"
	"sync"
	"testing"

	"confidant/api"
	"confidant/arena"
	"confidant/ident"
)

// outside are numbers that are no label, whatever the quotas are.
func outside() []int {
	return []int{math.MinInt, math.MinInt32, -1 << 32, -1<<32 + 1, -65536, -16, -2, -1, 16, 17, 31, 32, 255, 256, 65535, 65536, math.MaxInt32, 1 << 32, 1<<32 + 1, 1 << 48, math.MaxInt}
}

// strangers are numbers that are the identity of nothing at a label from 0 to 15.
func strangers() []int32 {
	return []int32{math.MinInt32, math.MinInt32 + 1, -1 << 20, -65537, -65536, -65535, -2, -1, 16 << 16, 16<<16 + 1, 17 << 16, 1 << 24, 1 << 30, math.MaxInt32 - 65535, math.MaxInt32}
}

// scramble yields numbers: the same ones in every run.
func scramble(seed uint64) func(n int) int {
	return func(n int) int {
		seed = seed*6364136223846793005 + 1442695040888963407
		return int(seed>>33) % n
	}
}

// makes asks for a reference that must get the identity id.
func makes(t *testing.T, a *arena.Arena, by, label int, v, id int32) {
	t.Helper()
	if got, ok := a.Make(by, label, v); got != id || !ok {
		t.Errorf("Make(%d, %d, %d): %d, %v; want %d", by, label, v, got, ok, id)
	}
}

// refuses asks for a reference that must not be made.
func refuses(t *testing.T, a *arena.Arena, by int) {
	t.Helper()
	before := a.Count(by)
	if id, ok := a.Make(by, 1, 2); id != 0 || ok || a.Count(by) != before {
		t.Errorf("Make(%d, 1, 2): %d, %v, and Count %d; want 0, false, %d", by, id, ok, a.Count(by), before)
	}
}

// has asks for a reference that must be there.
func has(t *testing.T, a *arena.Arena, id int32, want api.Ref) {
	t.Helper()
	if got, ok := a.Get(id); got != want || !ok {
		t.Errorf("Get(%d): %v, %v; want %v", id, got, ok, want)
	}
}

// lacks asks for a reference that must not be there.
func lacks(t *testing.T, a *arena.Arena, id int32) {
	t.Helper()
	if got, ok := a.Get(id); got != (api.Ref{}) || ok {
		t.Errorf("Get(%d): %v, %v; want none", id, got, ok)
	}
	if a.Set(id, 7) {
		t.Errorf("Set(%d, 7): true; want false", id)
	}
}

func TestP12_1_Example(t *testing.T) {
	a := arena.New(0)
	refuses(t, a, 0)
	lacks(t, a, 0)
}

func TestP12_1_Identities(t *testing.T) {
	a := arena.New(3, 3, 3)
	for _, c := range []struct {
		by int
		id int32
	}{{1, 65536}, {1, 65537}, {0, 0}, {2, 131072}, {1, 65538}, {0, 1}, {2, 131073}, {0, 2}, {2, 131074}} {
		n := a.Count(c.by)
		makes(t, a, c.by, 9, 5, c.id)
		if want, _ := ident.Of(c.by, n); want != c.id || a.Count(c.by) != n+1 {
			t.Errorf("Make at %d: the identity is %d, ident.Of is %d; Count went from %d to %d", c.by, c.id, want, n, a.Count(c.by))
		}
	}
	for by := range 3 {
		refuses(t, a, by)
	}
}

// TestP12_1_QuotasOutOfRange: less than 0 counts as 0, and more than MaxQuota as MaxQuota.
func TestP12_1_QuotasOutOfRange(t *testing.T) {
	for _, c := range []struct{ quota, want int }{
		{math.MinInt, 0}, {math.MinInt32, 0}, {-1 << 32, 0}, {-4096, 0}, {-2, 0}, {-1, 0}, {0, 0}, {1, 1}, {2, 2}, {255, 255}, {256, 256}, {4095, 4095}, {4096, 4096},
		{4097, 4096}, {8192, 4096}, {65535, 4096}, {65536, 4096}, {65537, 4096}, {math.MaxInt32, 4096}, {1 << 32, 4096}, {1<<32 + 1, 4096}, {math.MaxInt, 4096},
	} {
		for _, by := range []int{0, 1, 15} {
			quotas := make([]int, 16)
			quotas[by] = c.quota
			a, made := arena.New(quotas...), 0
			for made < 5000 {
				if _, ok := a.Make(by, 0, 0); !ok {
					break
				}
				made++
			}
			if made != c.want || a.Count(by) != c.want {
				t.Errorf("quota %d at label %d: %d references, Count %d; want %d", c.quota, by, made, a.Count(by), c.want)
			}
			refuses(t, a, by)
			lacks(t, a, int32(by)<<16+int32(c.want))
		}
	}
}

// TestP12_1_ManyQuotas: only the first MaxLabels are used.
func TestP12_1_ManyQuotas(t *testing.T) {
	for _, size := range []int{0, 1, 2, 8, 15, 16, 17, 18, 32, 33, 64, 1000} {
		quotas := slices.Repeat([]int{2}, size)
		a := arena.New(quotas...)
		for by := range size + 20 {
			if by >= min(size, 16) {
				refuses(t, a, by)
				continue
			}
			makes(t, a, by, by+1, int32(-by), int32(by)<<16)
			makes(t, a, by, by+2, int32(by), int32(by)<<16+1)
			refuses(t, a, by)
		}
		for by := range size + 20 {
			want := 0
			if by < min(size, 16) {
				want = 2
			}
			if got := a.Count(by); got != want {
				t.Errorf("%d quotas: Count(%d): %d, want %d", size, by, got, want)
			}
		}
	}
}

func TestP12_1_NoSuchLabel(t *testing.T) {
	a := arena.New(slices.Repeat([]int{5}, 16)...)
	makes(t, a, 0, 1, 2, 0)
	for _, by := range outside() {
		refuses(t, a, by)
		if n := a.Count(by); n != 0 {
			t.Errorf("Count(%d): %d", by, n)
		}
	}
	empty := arena.New()
	for _, by := range append(outside(), 0, 1, 15) {
		refuses(t, empty, by)
		if n := empty.Count(by); n != 0 {
			t.Errorf("Count(%d): %d", by, n)
		}
	}
	if n := a.Count(0); n != 1 {
		t.Errorf("Count(0): %d", n)
	}
}

func TestP12_1_NoSuchReference(t *testing.T) {
	a := arena.New(2, 0, 3)
	for _, id := range []int32{0, 1, 65536, 131072} {
		lacks(t, a, id)
	}
	makes(t, a, 0, 4, 5, 0)
	makes(t, a, 2, 6, 7, 131072)
	makes(t, a, 2, 8, 9, 131073)
	for _, id := range append(strangers(), 1, 2, 3, 4096, 65535, 65536, 65537, 131071, 131074, 131075, 196607, 196608, 15<<16, 15<<16+1) {
		lacks(t, a, id)
	}
	has(t, a, 0, api.Ref{Label: 4, Value: 5})
	has(t, a, 131072, api.Ref{Label: 6, Value: 7})
	has(t, a, 131073, api.Ref{Label: 8, Value: 9})
}

// TestP12_1_AnyLabelAndValue: they are kept as they are given.
func TestP12_1_AnyLabelAndValue(t *testing.T) {
	a := arena.New(0, 4096)
	id := int32(65536)
	for _, label := range append(outside(), 0, 1, 2, 15) {
		for _, v := range []int32{math.MinInt32, -65536, -1, 0, 1, 255, 65536, math.MaxInt32} {
			makes(t, a, 1, label, v, id)
			has(t, a, id, api.Ref{Label: label, Value: v})
			for _, w := range []int32{math.MaxInt32, 0, -1, v, math.MinInt32} {
				if !a.Set(id, w) {
					t.Errorf("Set(%d, %d): false", id, w)
				}
				has(t, a, id, api.Ref{Label: label, Value: w})
			}
			id++
		}
	}
}

// TestP12_1_SetOne: no other reference changes, and none is made.
func TestP12_1_SetOne(t *testing.T) {
	for target := range 12 {
		a := arena.New(4, 4, 4)
		want := map[int32]api.Ref{}
		for n := range 12 {
			id := int32(n%3)<<16 + int32(n/3)
			want[id] = api.Ref{Label: n, Value: int32(n + 100)}
			makes(t, a, n%3, n, int32(n+100), id)
		}
		id := int32(target%3)<<16 + int32(target/3)
		if !a.Set(id, -1) {
			t.Errorf("Set(%d, -1): false", id)
		}
		want[id] = api.Ref{Label: target, Value: -1}
		for id, ref := range want {
			has(t, a, id, ref)
		}
		if a.Count(0) != 4 || a.Count(1) != 4 || a.Count(2) != 4 {
			t.Errorf("Count after Set: %d, %d, %d", a.Count(0), a.Count(1), a.Count(2))
		}
	}
}

// TestP12_1_QuotasNotKept: what happens later to the list of quotas is of no account, and New and Make leave it alone.
func TestP12_1_QuotasNotKept(t *testing.T) {
	whole := []int{1, -5, 5000, 7, 8}
	a := arena.New(whole[:3]...)
	makes(t, a, 0, 0, 0, 0)
	refuses(t, a, 1)
	if !slices.Equal(whole, []int{1, -5, 5000, 7, 8}) {
		t.Errorf("the quotas are now %v", whole)
	}
	for n := range whole {
		whole[n] = 3
	}
	refuses(t, a, 0)
	refuses(t, a, 1)
	refuses(t, a, 3)
	for n := range int32(4096) {
		makes(t, a, 2, 0, 0, 131072+n)
	}
	refuses(t, a, 2)
}

func TestP12_1_ArenasApart(t *testing.T) {
	a, b := arena.New(2, 2), arena.New(2, 2)
	makes(t, a, 1, 3, 4, 65536)
	lacks(t, b, 65536)
	makes(t, b, 1, 5, 6, 65536)
	a.Set(65536, 7)
	has(t, a, 65536, api.Ref{Label: 3, Value: 7})
	has(t, b, 65536, api.Ref{Label: 5, Value: 6})
	if a.Count(0) != 0 || b.Count(0) != 0 || a.Count(1) != 1 || b.Count(1) != 1 {
		t.Error("two arenas share their counts")
	}
}

// TestP12_2_QuotaOfEachLabel: in whatever order the labels use theirs up, none uses another's.
func TestP12_2_QuotaOfEachLabel(t *testing.T) {
	next := scramble(12)
	for range 200 {
		quotas, left := make([]int, 16), 0
		for by := range quotas {
			quotas[by] = next(6)
			left += quotas[by]
		}
		a, made := arena.New(quotas...), make([]int, 16)
		for left > 0 {
			by := next(16)
			if made[by] == quotas[by] {
				refuses(t, a, by)
				continue
			}
			makes(t, a, by, next(16), 1, int32(by)<<16+int32(made[by]))
			made[by]++
			left--
		}
		for by, q := range quotas {
			refuses(t, a, by)
			if n := a.Count(by); n != q {
				t.Errorf("Count(%d): %d, want %d", by, n, q)
			}
		}
	}
}

// plain is an arena as the chapter tells it.
type plain struct {
	quotas []int
	refs   map[int32]api.Ref
	count  map[int]int
}

func (p *plain) make(by, label int, v int32) (int32, bool) {
	if by < 0 || by >= 16 || by >= len(p.quotas) || p.count[by] >= p.quotas[by] {
		return 0, false
	}
	id := int32(by*65536 + p.count[by])
	p.count[by]++
	p.refs[id] = api.Ref{Label: label, Value: v}
	return id, true
}

func (p *plain) set(id, v int32) bool {
	ref, ok := p.refs[id]
	if ok {
		p.refs[id] = api.Ref{Label: ref.Label, Value: v}
	}
	return ok
}

func TestP12_1_RandomCalls(t *testing.T) {
	next := scramble(121)
	for range 300 {
		p := &plain{refs: map[int32]api.Ref{}, count: map[int]int{}}
		for range next(20) {
			p.quotas = append(p.quotas, next(8))
		}
		a := arena.New(p.quotas...)
		for range 150 {
			by, label, v := next(22)-2, next(40)-20, int32(next(1000)-500)
			id := int32(next(20)-1)<<16 + int32(next(9))
			wantId, wantOk := int32(0), false
			if next(2) == 0 {
				wantId, wantOk = p.make(by, label, v)
				if got, ok := a.Make(by, label, v); got != wantId || ok != wantOk {
					t.Fatalf("Make(%d, %d, %d): %d, %v; want %d, %v", by, label, v, got, ok, wantId, wantOk)
				}
			} else if want, got := p.set(id, v), a.Set(id, v); got != want {
				t.Fatalf("Set(%d, %d): %v", id, v, got)
			}
			want, wantOk := p.refs[id]
			if got, ok := a.Get(id); got != want || ok != wantOk || a.Count(by) != p.count[by] {
				t.Fatalf("Get(%d): %v, %v; want %v, %v; Count(%d): %d, want %d", id, got, ok, want, wantOk, by, a.Count(by), p.count[by])
			}
		}
	}
}

// TestP12_1_SideBySide: arenas in different goroutines have nothing in common.
func TestP12_1_SideBySide(t *testing.T) {
	var all sync.WaitGroup
	for g := range 8 {
		all.Go(func() {
			a := arena.New(100, 100)
			for n := range int32(100) {
				makes(t, a, 1, g, n, 65536+n)
				a.Set(65536+n, n*int32(g))
			}
			for n := range int32(100) {
				has(t, a, 65536+n, api.Ref{Label: g, Value: n * int32(g)})
			}
		})
	}
	all.Wait()
}
