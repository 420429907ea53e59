package future_test

import (
	"math"
	"slices"
	"sync"
	"testing"

	"confidant/api"
	"confidant/future"
	"confidant/ident"
)

// outside are numbers that are no label, whatever the quotas are.
func outside() []int {
	return []int{math.MinInt, math.MinInt32, -1 << 32, -1<<32 + 1, -65536, -16, -2, -1, 16, 17, 31, 32, 255, 256, 65535, 65536, math.MaxInt32, 1 << 32, 1<<32 + 1, 1 << 48, math.MaxInt}
}

// scramble yields numbers: the same ones in every run.
func scramble(seed uint64) func(n int) int {
	return func(n int) int {
		seed = seed*6364136223846793005 + 1442695040888963407
		return int(seed>>33) % n
	}
}

func open(label int) api.Future {
	return api.Future{Label: label}
}

func kept(label int, v int32) api.Future {
	return api.Future{Label: label, State: api.Kept, Value: v}
}

func broken(label int, code api.Errno) api.Future {
	return api.Future{Label: label, State: api.Broken, Code: code}
}

// makes asks for a future that must get the identity id and be Open.
func makes(t *testing.T, f *future.Futures, by, label int, id int32) {
	t.Helper()
	n := f.Count(by)
	if got, ok := f.Make(by, label); got != id || !ok || f.Count(by) != n+1 {
		t.Errorf("Make(%d, %d): %d, %v; want %d; Count went from %d to %d", by, label, got, ok, id, n, f.Count(by))
	}
	has(t, f, id, open(label))
}

// refuses asks for a future that must not be made.
func refuses(t *testing.T, f *future.Futures, by int) {
	t.Helper()
	n := f.Count(by)
	if id, ok := f.Make(by, 1); id != 0 || ok || f.Count(by) != n {
		t.Errorf("Make(%d, 1): %d, %v; Count went from %d to %d", by, id, ok, n, f.Count(by))
	}
}

// has asks for a future that must be there.
func has(t *testing.T, f *future.Futures, id int32, want api.Future) {
	t.Helper()
	if got, ok := f.Get(id); got != want || !ok {
		t.Errorf("Get(%d): %v, %v; want %v", id, got, ok, want)
	}
}

// lacks asks for a future that must not be there.
func lacks(t *testing.T, f *future.Futures, id int32) {
	t.Helper()
	if got, ok := f.Get(id); got != (api.Future{}) || ok {
		t.Errorf("Get(%d): %v, %v; want none", id, got, ok)
	}
	if f.Keep(id, 7) || f.Break(id, 7) {
		t.Errorf("Keep or Break of %d: true", id)
	}
}

// lists asks for all futures.
func lists(t *testing.T, f *future.Futures, want ...[]api.Future) {
	t.Helper()
	if got := f.All(); !slices.EqualFunc(got, want, slices.Equal[[]api.Future]) {
		t.Errorf("All: %v, want %v", got, want)
	}
}

func TestP13_1_Identities(t *testing.T) {
	f := future.New(3, 3, 3)
	for _, c := range []struct {
		by int
		id int32
	}{{1, 65536}, {1, 65537}, {0, 0}, {2, 131072}, {1, 65538}, {0, 1}, {2, 131073}, {0, 2}, {2, 131074}} {
		if want, _ := ident.Of(c.by, f.Count(c.by)); want != c.id {
			t.Errorf("ident.Of(%d, %d): %d, want %d", c.by, f.Count(c.by), want, c.id)
		}
		makes(t, f, c.by, int(c.id)%7, c.id)
	}
	for by := range 3 {
		refuses(t, f, by)
	}
}

// TestP13_1_QuotasOutOfRange: less than 0 counts as 0, and more than MaxQuota as MaxQuota.
func TestP13_1_QuotasOutOfRange(t *testing.T) {
	for _, c := range []struct{ quota, want int }{
		{math.MinInt, 0}, {math.MinInt32, 0}, {-1 << 32, 0}, {-4096, 0}, {-2, 0}, {-1, 0}, {0, 0}, {1, 1}, {2, 2}, {255, 255}, {256, 256}, {4095, 4095}, {4096, 4096},
		{4097, 4096}, {8192, 4096}, {65535, 4096}, {65536, 4096}, {65537, 4096}, {math.MaxInt32, 4096}, {1 << 32, 4096}, {1<<32 + 1, 4096}, {math.MaxInt, 4096},
	} {
		for _, by := range []int{0, 1, 15} {
			quotas := make([]int, 16)
			quotas[by] = c.quota
			f, made := future.New(quotas...), 0
			for made < 5000 {
				if _, ok := f.Make(by, 0); !ok {
					break
				}
				made++
			}
			if made != c.want || f.Count(by) != c.want || len(f.All()[by]) != c.want {
				t.Errorf("quota %d at label %d: %d futures, Count %d, %d in All; want %d", c.quota, by, made, f.Count(by), len(f.All()[by]), c.want)
			}
			refuses(t, f, by)
			lacks(t, f, int32(by)<<16+int32(c.want))
		}
	}
}

// TestP13_1_ManyQuotas: only the first MaxLabels are used, by All too.
func TestP13_1_ManyQuotas(t *testing.T) {
	for _, size := range []int{0, 1, 2, 8, 15, 16, 17, 18, 32, 33, 64, 1000} {
		f := future.New(slices.Repeat([]int{1}, size)...)
		var want [][]api.Future
		for by := range size + 20 {
			if by >= min(size, 16) {
				refuses(t, f, by)
				continue
			}
			lists(t, f, slices.Concat(want, make([][]api.Future, min(size, 16)-by))...)
			makes(t, f, by, by+1, int32(by)<<16)
			refuses(t, f, by)
			want = append(want, []api.Future{open(by + 1)})
		}
		lists(t, f, want...)
	}
}

func TestP13_1_NoSuchLabel(t *testing.T) {
	f, empty := future.New(slices.Repeat([]int{5}, 16)...), future.New()
	makes(t, f, 0, 1, 0)
	for _, by := range outside() {
		refuses(t, f, by)
		refuses(t, empty, by)
		if f.Count(by) != 0 || empty.Count(by) != 0 {
			t.Errorf("Count(%d): %d, %d", by, f.Count(by), empty.Count(by))
		}
	}
	refuses(t, empty, 0)
	lists(t, empty)
	if n := f.Count(0); n != 1 {
		t.Errorf("Count(0): %d", n)
	}
}

func TestP13_1_NoSuchFuture(t *testing.T) {
	f := future.New(2, 0, 3)
	for _, id := range []int32{0, 1, 65536, 131072} {
		lacks(t, f, id)
	}
	makes(t, f, 0, 4, 0)
	makes(t, f, 2, 6, 131072)
	makes(t, f, 2, 8, 131073)
	for _, id := range []int32{
		math.MinInt32, math.MinInt32 + 1, -131072, -65537, -65536, -65535, -2, -1, 1, 2, 3, 4096, 65535, 65536, 65537, 131071, 131074, 131075, 196607, 196608,
		15 << 16, 16 << 16, 16<<16 + 1, 17 << 16, 1 << 24, 1 << 30, math.MaxInt32 - 65535, math.MaxInt32,
	} {
		lacks(t, f, id)
	}
	lists(t, f, []api.Future{open(4)}, nil, []api.Future{open(6), open(8)})
}

func TestP13_1_AnyLabel(t *testing.T) {
	f := future.New(0, 100)
	id := int32(65536)
	for _, label := range append(outside(), 0, 1, 2, 15) {
		makes(t, f, 1, label, id)
		id++
	}
}

// TestP13_1_Keep: whatever the value is, 0 too.
func TestP13_1_Keep(t *testing.T) {
	f := future.New(0, 100)
	for n, v := range []int32{0, 1, -1, 2, 255, 65536, math.MaxInt32, math.MinInt32} {
		id := int32(65536 + n)
		makes(t, f, 1, n+3, id)
		if !f.Keep(id, v) {
			t.Errorf("Keep(%d, %d): false", id, v)
		}
		has(t, f, id, kept(n+3, v))
	}
	if n := f.Count(1); n != 8 {
		t.Errorf("Count(1): %d", n)
	}
}

// TestP13_1_Break: whatever the code is, also one that is no error.
func TestP13_1_Break(t *testing.T) {
	f := future.New(0, 100)
	for n, code := range []api.Errno{api.OK, api.ErrLabel, api.ErrChild, 1, -1, 99, math.MaxInt32, 1 << 40, math.MaxInt, math.MinInt} {
		id := int32(65536 + n)
		makes(t, f, 1, n+3, id)
		if !f.Break(id, code) {
			t.Errorf("Break(%d, %d): false", id, code)
		}
		has(t, f, id, broken(n+3, code))
	}
	if n := f.Count(1); n != 10 {
		t.Errorf("Count(1): %d", n)
	}
}

// TestP13_1_OneFuture: no other future changes, and none is made.
func TestP13_1_OneFuture(t *testing.T) {
	for target := range 12 {
		f := future.New(4, 4, 4)
		want := make([][]api.Future, 3)
		for n := range 12 {
			makes(t, f, n%3, n, int32(n%3)<<16+int32(n/3))
			want[n%3] = append(want[n%3], open(n))
		}
		lists(t, f, want...)
		id, other := int32(target%3)<<16+int32(target/3), int32((target+1)%3)<<16+int32(target/3)
		if !f.Keep(id, 50) {
			t.Errorf("Keep(%d, 50): false", id)
		}
		want[target%3][target/3] = kept(target, 50)
		lists(t, f, want...)
		if !f.Break(other, 60) {
			t.Errorf("Break(%d, 60): false", other)
		}
		want[(target+1)%3][target/3] = broken(target/3*3+(target+1)%3, 60)
		lists(t, f, want...)
	}
}

// TestP13_1_AllIsNew: neither the futures nor another answer nor another list of the answer change with an answer.
func TestP13_1_AllIsNew(t *testing.T) {
	f := future.New(3, 3, 0)
	for n := range int32(3) {
		makes(t, f, 0, 1, n)
		makes(t, f, 1, 2, 65536+n)
	}
	before := f.All()
	for by, l := range f.All() {
		for n := range l {
			l[n] = kept(9, 9)
		}
		_ = append(l, kept(9, 9), kept(9, 9))
		_ = append(l[:0], kept(8, 8))
		if by == 2 && len(l) != 0 {
			t.Errorf("All: %v at label 2", l)
		}
	}
	lists(t, f, before...)
	lists(t, f, []api.Future{open(1), open(1), open(1)}, []api.Future{open(2), open(2), open(2)}, nil)
	f.Keep(1, 5)
	if before[0][1] != open(1) {
		t.Errorf("an earlier answer of All became %v", before)
	}
	answer := f.All()
	_ = append(answer[0], kept(7, 7), kept(7, 7), kept(7, 7))
	if !slices.Equal(answer[1], before[1]) {
		t.Errorf("a list of an answer became %v", answer[1])
	}
}

// TestP13_1_QuotasNotKept: what happens later to the list of quotas is of no account, and New and Make leave it alone.
func TestP13_1_QuotasNotKept(t *testing.T) {
	whole := []int{1, -5, 5000, 7, 8}
	f := future.New(whole[:3]...)
	makes(t, f, 0, 0, 0)
	refuses(t, f, 1)
	if !slices.Equal(whole, []int{1, -5, 5000, 7, 8}) {
		t.Errorf("the quotas are now %v", whole)
	}
	for n := range whole {
		whole[n] = 3
	}
	refuses(t, f, 0)
	refuses(t, f, 1)
	refuses(t, f, 3)
	for n := range int32(4096) {
		makes(t, f, 2, 0, 131072+n)
	}
	refuses(t, f, 2)
}

// TestP13_1_QuotaOfEachLabel: in whatever order the labels use theirs up, none uses another's; results give nothing back.
func TestP13_1_QuotaOfEachLabel(t *testing.T) {
	next := scramble(13)
	for range 100 {
		quotas, left := make([]int, 16), 0
		for by := range quotas {
			quotas[by] = next(6)
			left += quotas[by]
		}
		f, made := future.New(quotas...), make([]int, 16)
		for left > 0 {
			by := next(16)
			if made[by] == quotas[by] {
				refuses(t, f, by)
				continue
			}
			id := int32(by)<<16 + int32(made[by])
			makes(t, f, by, next(16), id)
			if next(2) == 0 {
				f.Keep(id, 1)
			}
			made[by]++
			left--
		}
		for by, q := range quotas {
			refuses(t, f, by)
			if n := f.Count(by); n != q {
				t.Errorf("Count(%d): %d, want %d", by, n, q)
			}
		}
	}
}

func TestP13_2_SecondResult(t *testing.T) {
	results := []struct {
		give func(f *future.Futures, id int32) bool
		want api.Future
	}{
		{func(f *future.Futures, id int32) bool { return f.Keep(id, 0) }, kept(3, 0)},
		{func(f *future.Futures, id int32) bool { return f.Keep(id, 5) }, kept(3, 5)},
		{func(f *future.Futures, id int32) bool { return f.Keep(id, -6) }, kept(3, -6)},
		{func(f *future.Futures, id int32) bool { return f.Break(id, 0) }, broken(3, 0)},
		{func(f *future.Futures, id int32) bool { return f.Break(id, 5) }, broken(3, 5)},
		{func(f *future.Futures, id int32) bool { return f.Break(id, -6) }, broken(3, -6)},
	}
	for i, first := range results {
		f := future.New(0, 9)
		makes(t, f, 1, 3, 65536)
		if !first.give(f, 65536) {
			t.Errorf("result %d: false", i)
		}
		for j, second := range results {
			if second.give(f, 65536) {
				t.Errorf("result %d behind %d: true", j, i)
			}
			has(t, f, 65536, first.want)
		}
		makes(t, f, 1, 3, 65537)
		has(t, f, 65536, first.want)
		lists(t, f, nil, []api.Future{first.want, open(3)})
	}
}

// plain is the futures as the chapter tells them.
type plain struct {
	quotas []int
	made   [][]api.Future
}

func (p *plain) find(id int32) *api.Future {
	by, n := int(id>>16), int(id&65535)
	if id < 0 || by >= len(p.made) || n >= len(p.made[by]) {
		return nil
	}
	return &p.made[by][n]
}

func (p *plain) make(by, label int) (int32, bool) {
	if by < 0 || by >= len(p.made) || len(p.made[by]) == p.quotas[by] {
		return 0, false
	}
	p.made[by] = append(p.made[by], open(label))
	return int32(by<<16 + len(p.made[by]) - 1), true
}

func (p *plain) settle(id int32, result api.Future) bool {
	o := p.find(id)
	if o == nil || o.State != api.Open {
		return false
	}
	result.Label = o.Label
	*o = result
	return true
}

func TestP13_1_RandomCalls(t *testing.T) {
	next := scramble(131)
	for range 300 {
		p := &plain{made: make([][]api.Future, next(17))}
		for range p.made {
			p.quotas = append(p.quotas, next(8))
		}
		f := future.New(p.quotas...)
		for range 120 {
			by, label, v := next(22)-2, next(40)-20, next(1000)-500
			id := int32(next(20)-1)<<16 + int32(next(9))
			switch next(4) {
			case 0:
				want := p.settle(id, kept(0, int32(v)))
				if got := f.Keep(id, int32(v)); got != want {
					t.Fatalf("Keep(%d, %d): %v", id, v, got)
				}
			case 1:
				want := p.settle(id, broken(0, api.Errno(v)))
				if got := f.Break(id, api.Errno(v)); got != want {
					t.Fatalf("Break(%d, %d): %v", id, v, got)
				}
			default:
				want, wantOk := p.make(by, label)
				if got, ok := f.Make(by, label); got != want || ok != wantOk {
					t.Fatalf("Make(%d, %d): %d, %v; want %d, %v", by, label, got, ok, want, wantOk)
				}
			}
		}
		lists(t, f, p.made...)
		for by, l := range p.made {
			for n, want := range l {
				has(t, f, int32(by<<16+n), want)
			}
			if f.Count(by) != len(l) {
				t.Errorf("Count(%d): %d, want %d", by, f.Count(by), len(l))
			}
		}
	}
}

// TestP13_1_SideBySide: futures in different goroutines have nothing in common.
func TestP13_1_SideBySide(t *testing.T) {
	var all sync.WaitGroup
	for g := range 8 {
		all.Go(func() {
			f := future.New(100, 100)
			for n := range int32(100) {
				makes(t, f, 1, g, 65536+n)
				f.Keep(65536+n, n*int32(g))
			}
			for n := range int32(100) {
				has(t, f, 65536+n, kept(g, n*int32(g)))
			}
		})
	}
	all.Wait()
}
