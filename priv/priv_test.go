package priv

import (
	"math"
	"slices"
	"testing"

	"confidant/api"
)

// scramble yields numbers: the same ones in every run.
func scramble(seed uint64) func() uint32 {
	return func() uint32 {
		seed = seed*6364136223846793005 + 1442695040888963407
		return uint32(seed >> 32)
	}
}

// bits takes p apart by division: whether it holds each of its 32 numbers.
func bits(p uint32) [32]bool {
	var held [32]bool
	for n := range held {
		held[n] = p%2 == 1
		p /= 2
	}
	return held
}

// masks are all sets of privileges, each bit alone and missing, and many other masks.
func masks() []uint32 {
	l := []uint32{math.MaxUint32, 1 << 16, 3 << 15, 0xffff0000, 0x55555555, 0xaaaaaaaa}
	for p := range uint32(1 << 16) {
		l = append(l, p)
	}
	for n := range 32 {
		l = append(l, 1<<n, ^(1 << n), 1<<n-1, ^(1<<n - 1))
	}
	next := scramble(4)
	for range 10000 {
		l = append(l, next(), next()&next()&next(), next()|next()|next())
	}
	return l
}

// noPrivileges are numbers of no privilege; each would be one, or would panic, if it were cut or shifted by carelessly.
func noPrivileges() []int {
	return []int{-1, -2, -16, -32, -64, 16, 17, 31, 32, 33, 47, 63, 64, 65, 80, 255, 256, 1 << 16, 1 << 31, 1 << 32, 1<<32 + 3, -1 << 32, math.MinInt32, math.MinInt, math.MinInt + 5, math.MaxInt}
}

func TestP4_1_RightIsNoOtherBit(t *testing.T) {
	for _, p := range masks() {
		held := bits(p)
		want := !slices.Contains(held[api.MaxPrivs:], true)
		if Right(p) != want {
			t.Fatalf("Right(%#x): %v", p, !want)
		}
	}
}

func TestP4_1_RightByName(t *testing.T) {
	for _, p := range []uint32{0, 1, 5, 0x8000, 0xffff} {
		if !Right(p) {
			t.Errorf("Right(%#x): false", p)
		}
	}
	for _, p := range []uint32{0x10000, 0x10001, 0x1ffff, 0x80000000, 0xffff0000, math.MaxUint32} {
		if Right(p) {
			t.Errorf("Right(%#x): true", p)
		}
	}
}

func TestP4_1_OfByName(t *testing.T) {
	for _, c := range []struct {
		l    []int
		want uint32
	}{
		{nil, 0},
		{[]int{}, 0},
		{[]int{0}, 1},
		{[]int{0, 2}, 5},
		{[]int{2, 0}, 5},
		{[]int{3, 3}, 8},
		{[]int{1, 0, 1, 0, 1}, 3},
		{[]int{15}, 0x8000},
		{[]int{0, 1, 2, 3, 4, 5, 6, 7, 8, 9, 10, 11, 12, 13, 14, 15}, 0xffff},
		{[]int{16}, 0},
		{[]int{-1}, 0},
		{[]int{-1, 15, 16}, 0x8000},
	} {
		if got := Of(c.l...); got != c.want {
			t.Errorf("Of(%v): %#x, not %#x", c.l, got, c.want)
		}
	}
	if Of() != 0 || Of(0, 2) != 5 {
		t.Error("Of() or Of(0, 2)")
	}
}

// TestP4_1_OfEverySet gives each set forwards and backwards.
func TestP4_1_OfEverySet(t *testing.T) {
	for p := range uint32(1 << api.MaxPrivs) {
		var l []int
		for n, held := range bits(p) {
			if held {
				l = append(l, n)
			}
		}
		if got := Of(l...); got != p {
			t.Fatalf("Of(%v): %#x", l, got)
		}
		slices.Reverse(l)
		if got := Of(append(l, l...)...); got != p {
			t.Fatalf("Of(%v) twice: %#x", l, got)
		}
	}
}

func TestP4_1_OfPassesOverOthers(t *testing.T) {
	for _, n := range noPrivileges() {
		if got := Of(n); got != 0 {
			t.Errorf("Of(%d): %#x", n, got)
		}
		if got := Of(n, 4, n, 9, n); got != 1<<4|1<<9 {
			t.Errorf("Of(4, 9) among %d: %#x", n, got)
		}
	}
	if got := Of(noPrivileges()...); got != 0 {
		t.Errorf("Of all that are none: %#x", got)
	}
}

func TestP4_1_OfLongLists(t *testing.T) {
	next := scramble(7)
	var l []int
	var want [32]bool
	for range 100000 {
		n := int(next() % 1000)
		if n == 6 {
			continue // one privilege that is missing
		}
		l = append(l, n)
		if n < api.MaxPrivs {
			want[n] = true
		}
	}
	if got := Of(l...); bits(got) != want {
		t.Errorf("Of a long list: %#x", got)
	}
}

// TestP4_1_OfLeavesItsArgument looks at the list and at what its memory holds behind it.
func TestP4_1_OfLeavesItsArgument(t *testing.T) {
	room := []int{16, 3, -1, 0, 3, 77, 78}
	before := slices.Clone(room)
	if got := Of(room[:5]...); got != 9 {
		t.Errorf("Of(%v): %#x", room[:5], got)
	}
	if !slices.Equal(room, before) {
		t.Errorf("Of changed its list: %v", room)
	}
}

func sameHas(t *testing.T, p, need uint32) {
	t.Helper()
	want := true
	had, needed := bits(p), bits(need)
	for n := range had {
		if needed[n] && !had[n] {
			want = false
		}
	}
	if Has(p, need) != want {
		t.Fatalf("Has(%#x, %#x): %v", p, need, !want)
	}
}

func TestP4_1_HasOfSmallSets(t *testing.T) {
	for p := range uint32(1 << 7) {
		for need := range uint32(1 << 7) {
			for _, up := range []int{0, 6, 12, 25} {
				sameHas(t, p<<up, need<<up)
			}
		}
	}
}

func TestP4_1_HasOfMasks(t *testing.T) {
	next := scramble(11)
	for _, p := range masks() {
		for _, need := range []uint32{0, p, ^p, p & next(), p | next(), p ^ 1<<(next()%32), next(), math.MaxUint32} {
			sameHas(t, p, need)
		}
	}
}

func TestP4_1_ListIsAscending(t *testing.T) {
	for _, p := range masks() {
		var want []int
		for n, held := range bits(p) {
			if held {
				want = append(want, n)
			}
		}
		if got := List(p); !slices.Equal(got, want) {
			t.Fatalf("List(%#x): %v, not %v", p, got, want)
		}
	}
}

func TestP4_1_ListByName(t *testing.T) {
	for _, c := range []struct {
		p    uint32
		want []int
	}{
		{0, nil},
		{1, []int{0}},
		{5, []int{0, 2}},
		{0x8000, []int{15}},
		{0x10000, []int{16}},
		{0x80000001, []int{0, 31}},
		{0xc001c000, []int{14, 15, 16, 30, 31}},
	} {
		if got := List(c.p); !slices.Equal(got, c.want) {
			t.Errorf("List(%#x): %v, not %v", c.p, got, c.want)
		}
	}
	if got := List(math.MaxUint32); len(got) != 32 || got[0] != 0 || got[31] != 31 {
		t.Errorf("List of all bits: %v", got)
	}
}

// TestP4_1_ListIsNew overwrites one result, and its room, and asks again.
func TestP4_1_ListIsNew(t *testing.T) {
	for _, p := range []uint32{5, 0xffff, math.MaxUint32} {
		first := List(p)
		want := slices.Clone(first)
		second := List(p)
		for i := range first[:cap(first)] {
			first[:cap(first)][i] = -7
		}
		if !slices.Equal(second, want) || !slices.Equal(List(p), want) {
			t.Errorf("List(%#x) is shared", p)
		}
	}
}

// TestP4_1_ListOfOf leaves of a list what Of keeps of it.
func TestP4_1_ListOfOf(t *testing.T) {
	if got := List(Of(9, 16, 2, -3, 9, 31, 15, 0)); !slices.Equal(got, []int{0, 2, 9, 15}) {
		t.Errorf("List of Of: %v", got)
	}
	for _, p := range masks() {
		if Right(p) != (Of(List(p)...) == p) {
			t.Fatalf("Of of List(%#x): %#x", p, Of(List(p)...))
		}
	}
}

// TestP4_2_AllThatItNeeds asks for operations by name: some of what is needed is not enough, and more does no harm.
func TestP4_2_AllThatItNeeds(t *testing.T) {
	for _, c := range []struct {
		held, need []int
		want       bool
	}{
		{nil, nil, true},
		{[]int{3}, nil, true},
		{nil, []int{3}, false},
		{[]int{3}, []int{3}, true},
		{[]int{2}, []int{3}, false},
		{[]int{3}, []int{3, 5}, false},
		{[]int{5}, []int{3, 5}, false},
		{[]int{3, 5}, []int{3, 5}, true},
		{[]int{0, 3, 5, 15}, []int{3, 5}, true},
		{[]int{0, 1, 2, 4, 6}, []int{3, 5}, false},
		{[]int{0, 1, 2, 3, 4, 6, 7, 15}, []int{3, 5}, false},
	} {
		if got := Has(Of(c.held...), Of(c.need...)); got != c.want {
			t.Errorf("%v has %v: %v", c.held, c.need, got)
		}
	}
}

// TestP4_2_EveryBitCounts needs bits that are no privileges too: who lacks them is not permitted.
func TestP4_2_EveryBitCounts(t *testing.T) {
	for n := range 32 {
		bit := uint32(1) << n
		if !Has(bit, bit) || !Has(math.MaxUint32, bit) || Has(^bit, bit) || Has(0, bit) || !Has(bit, 0) || Has(^bit, math.MaxUint32) {
			t.Errorf("Has, bit %d", n)
		}
	}
}
