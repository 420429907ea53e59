package table_test

import (
	"math"
	"slices"
	"sync"
	"testing"

	"confidant/table"
)

// scramble yields numbers: the same ones in every run.
func scramble(seed uint64) func(n int) int {
	return func(n int) int {
		seed = seed*6364136223846793005 + 1442695040888963407
		return int(seed>>33) % n
	}
}

// smallTables are all tables of up to four elements from -1 to 3.
func smallTables() [][]int {
	out := [][]int{nil}
	for from := 0; len(out[from]) < 4; from++ {
		for label := -1; label <= 3; label++ {
			out = append(out, append(slices.Clone(out[from]), label))
		}
	}
	return out
}

// greatTables are longer ones, valid or not.
func greatTables() [][]int {
	next := scramble(18)
	var out [][]int
	for _, size := range []int{5, 7, 8, 15, 16, 63, 64, 65, 128, 1000} {
		for _, labels := range []int{1, 2, 5, 16} {
			var l []int
			for range size {
				l = append(l, next(labels))
			}
			out = append(out, l)
		}
	}
	return append(out, []int{math.MinInt, math.MaxInt, 0, 1 << 32, -1 << 32, -1, 0})
}

func allTables() [][]int {
	return append(smallTables(), greatTables()...)
}

// slowAt goes round by round; t has elements.
func slowAt(t []int, round int) int {
	k := 0
	for ; round > 0; round-- {
		k++
		if k == len(t) {
			k = 0
		}
	}
	return t[k]
}

func TestP18_1_Example(t *testing.T) {
	if got := table.At([]int{1, 0}, 3); got != 0 {
		t.Errorf("At([1 0], 3): %d", got)
	}
}

func TestP18_1_RightAndAll(t *testing.T) {
	for _, l := range allTables() {
		for labels := -2; labels <= 18; labels++ {
			right := len(l) >= 1 && len(l) <= 64
			present := map[int]int{}
			for _, label := range l {
				right = right && label >= 0 && label < labels
				present[label] = 1
			}
			all := right
			for label := range labels {
				all = all && present[label] == 1
			}
			if a, b := table.Right(l, labels), table.All(l, labels); a != right || b != all {
				t.Errorf("%d labels: Right %v, All %v; want %v, %v of %v", labels, a, b, right, all, l)
			}
		}
	}
}

// TestP18_1_Size: 1 to MaxPeriod elements; All takes so many labels too.
func TestP18_1_Size(t *testing.T) {
	for size := range 200 {
		same, different := make([]int, size), make([]int, size)
		for n := range different {
			different[n] = size - 1 - n
		}
		fits := size >= 1 && size <= 64
		if table.Right(same, 1) != fits || table.All(same, 1) != fits || table.Right(different, size) != fits || table.All(different, size) != fits {
			t.Errorf("%d elements: Right %v, %v; All %v, %v", size, table.Right(same, 1), table.Right(different, size), table.All(same, 1), table.All(different, size))
		}
		if fits && (!table.Right(different, size+1) || table.Right(different, size-1) || table.All(different, size+1) || table.All(different, size-1)) {
			t.Errorf("%d elements, as many labels but one: Right %v, %v; All %v, %v", size, table.Right(different, size+1), table.Right(different, size-1), table.All(different, size+1), table.All(different, size-1))
		}
	}
}

// TestP18_1_AnyNumberOfLabels: also more than there can be, and less than none.
func TestP18_1_AnyNumberOfLabels(t *testing.T) {
	for _, labels := range []int{math.MinInt, math.MinInt32, -1 << 32, -1<<32 + 1, -16, -1, 0, 1, 2, 16, 17, 65, 256, 65536, math.MaxInt32, 1 << 32, 1<<32 + 1, math.MaxInt} {
		for _, label := range []int{math.MinInt, math.MinInt32, -1 << 32, -2, -1, 0, 1, 15, 16, 17, 255, 256, 65536, math.MaxInt32, 1 << 32, math.MaxInt} {
			inside := label >= 0 && label < labels
			for _, l := range [][]int{{label}, {0, label}, {label, 0, 0}} {
				if got := table.Right(l, labels); got != inside {
					t.Errorf("Right(%v, %d): %v", l, labels, got)
				}
			}
			if got := table.All([]int{0, label}, labels); got != (inside && (labels == 1 || labels == 2 && label == 1)) {
				t.Errorf("All([0 %d], %d): %v", label, labels, got)
			}
		}
		if table.Right(nil, labels) || table.All(nil, labels) {
			t.Errorf("Right or All of no table, %d labels", labels)
		}
	}
}

func TestP18_1_At(t *testing.T) {
	for _, l := range allTables() {
		for round := -3; round < 150; round++ {
			want := -1
			if len(l) > 0 {
				want = slowAt(l, round)
			}
			if got := table.At(l, round); got != want {
				t.Errorf("At(%v, %d): %d, want %d", l, round, got, want)
			}
		}
	}
}

// TestP18_1_AtFarRounds: as elements are used cyclically, a round is like the one that is many periods before it.
func TestP18_1_AtFarRounds(t *testing.T) {
	for _, l := range greatTables() {
		for _, far := range []int{1 << 16, math.MaxInt32, 1 << 32, 1 << 53, math.MaxInt - 2000} {
			far -= far % len(l)
			for n := range len(l) {
				if got := table.At(l, far+n); got != l[n] {
					t.Errorf("At(%v, %d): %d, want %d", l, far+n, got, l[n])
				}
			}
		}
		for _, round := range []int{math.MinInt, math.MinInt + 1, math.MinInt32, -1 << 32, -64, -1} {
			if got := table.At(l, round); got != l[0] {
				t.Errorf("At(%v, %d): %d, want %d", l, round, got, l[0])
			}
		}
	}
}

// slowNext looks at one round after the other; from two periods on, it has seen all labels of a table.
func slowNext(l []int, label, round int) int {
	for r := max(round, 0); r <= max(round, 0)+2*len(l); r++ {
		if len(l) > 0 && slowAt(l, r) == label {
			return r
		}
	}
	return -1
}

func TestP18_1_Next(t *testing.T) {
	for _, l := range smallTables() {
		for round := -2; round < 10; round++ {
			for label := -2; label <= 4; label++ {
				want := slowNext(l, label, round)
				if got := table.Next(l, label, round); got != want {
					t.Errorf("Next(%v, %d, %d): %d, want %d", l, label, round, got, want)
				}
			}
		}
	}
	for _, l := range greatTables() {
		for _, round := range []int{-1, 0, 1, 6, 62, 63, 64, 65, 127, 128, 130, 999, 1001} {
			for label := -1; label <= 16; label++ {
				want := slowNext(l, label, round)
				if got := table.Next(l, label, round); got != want {
					t.Errorf("Next(%v, %d, %d): %d, want %d", l, label, round, got, want)
				}
			}
		}
	}
}

// TestP18_1_NextOfFarRounds: up to the last round that is an int.
func TestP18_1_NextOfFarRounds(t *testing.T) {
	l := []int{0, 1, 1, 0, 2}
	for _, far := range []int{1 << 16, math.MaxInt32, 1 << 32, 1 << 53, math.MaxInt - 9} {
		far -= far % 5
		for _, c := range []struct{ label, offset, want int }{{0, 0, 0}, {1, 0, 1}, {2, 0, 4}, {0, 1, 3}, {1, 2, 2}, {2, 3, 4}, {2, 4, 4}, {0, 3, 3}} {
			if got := table.Next(l, c.label, far+c.offset); got != far+c.want {
				t.Errorf("Next(%v, %d, %d): %d, want %d", l, c.label, far+c.offset, got, far+c.want)
			}
		}
		if got := table.Next(l, 3, far); got != -1 {
			t.Errorf("Next(%v, 3, %d): %d", l, far, got)
		}
	}
	for _, label := range []int{0, 1, 7} {
		if got := table.Next([]int{label}, label, math.MaxInt); got != math.MaxInt {
			t.Errorf("Next([%d], %d, MaxInt): %d", label, label, got)
		}
		if got := table.Next([]int{label, label}, 9, math.MaxInt-1); got != -1 {
			t.Errorf("Next([%d %d], 9, MaxInt - 1): %d", label, label, got)
		}
	}
	for _, round := range []int{math.MinInt, math.MinInt32, -1 << 32, -5, -1} {
		if got := table.Next(l, 2, round); got != 4 {
			t.Errorf("Next(%v, 2, %d): %d", l, round, got)
		}
	}
	// whatever is returned where no int is late enough, the call ends
	table.Next(l, 3, math.MaxInt)
	table.Next([]int{0, 1}, 0, math.MaxInt)
}

func TestP18_1_Slots(t *testing.T) {
	for _, l := range append(smallTables(), greatTables()[:12]...) {
		for from := -2; from < 8; from++ {
			for to := -2; to < 14; to++ {
				for label := -2; label <= 4; label++ {
					want := 0
					for round := max(from, 0); round < to; round++ {
						if len(l) > 0 && slowAt(l, round) == label {
							want++
						}
					}
					if got := table.Slots(l, label, from, to); got != want {
						t.Fatalf("Slots(%v, %d, %d, %d): %d, want %d", l, label, from, to, got, want)
					}
				}
			}
		}
	}
}

// TestP18_1_SlotsOfLongTimes: a call that went round by round would not end.
func TestP18_1_SlotsOfLongTimes(t *testing.T) {
	l := []int{0, 1, 1, 0, 2}
	for _, c := range []struct{ label, from, to, want int }{
		{0, 0, 5_000_000_000, 2_000_000_000}, {1, 0, 5_000_000_002, 2_000_000_001}, {2, 4, 5_000_000_004, 1_000_000_000}, {2, 4, 5_000_000_005, 1_000_000_001},
		{0, 5_000_000_000, 0, 0}, {1, math.MaxInt, 0, 0}, {1, math.MaxInt, math.MinInt, 0}, {1, 7, math.MinInt, 0}, {0, math.MaxInt, math.MaxInt, 0},
		{0, math.MinInt, 4, 2}, {1, math.MinInt, 2, 1}, {0, math.MinInt, math.MinInt, 0}, {0, -5, 0, 0}, {0, -5, -1, 0}, {0, -5, 1, 1}, {0, 0, -1, 0},
		{3, 0, math.MaxInt, 0}, {2, 0, math.MaxInt, math.MaxInt / 5}, {2, math.MinInt, math.MaxInt, math.MaxInt / 5}, {1, math.MaxInt - 7, math.MaxInt - 2, 2},
		{0, math.MaxInt - 7, math.MaxInt - 5, 1}, {1, math.MaxInt - 1, math.MaxInt, 1}, {0, math.MaxInt - 1, math.MaxInt, 0},
	} {
		if got := table.Slots(l, c.label, c.from, c.to); got != c.want {
			t.Errorf("Slots(%v, %d, %d, %d): %d, want %d", l, c.label, c.from, c.to, got, c.want)
		}
	}
	for _, to := range []int{1, 5, math.MaxInt32, 1 << 40, math.MaxInt} {
		if got := table.Slots([]int{6}, 6, 0, to); got != to {
			t.Errorf("Slots([6], 6, 0, %d): %d", to, got)
		}
		if got := table.Slots([]int{6, 6, 6}, 6, 1, to); got != to-1 {
			t.Errorf("Slots([6 6 6], 6, 1, %d): %d", to, got)
		}
	}
}

func TestP18_1_NoTable(t *testing.T) {
	for _, l := range [][]int{nil, {}, make([]int, 3)[:0]} {
		for _, label := range []int{math.MinInt, -2, -1, 0, 1, math.MaxInt} {
			for _, round := range []int{math.MinInt, -1, 0, 1, 5, math.MaxInt} {
				if at, next, slots := table.At(l, round), table.Next(l, label, round), table.Slots(l, label, 0, round); at != -1 || next != -1 || slots != 0 {
					t.Errorf("no table, label %d, round %d: At %d, Next %d, Slots %d", label, round, at, next, slots)
				}
			}
		}
	}
}

// TestP18_2_Public: the rounds follow from the table alone: Next, Slots and At agree, and no call changes anything.
func TestP18_2_Public(t *testing.T) {
	for _, l := range greatTables() {
		whole := append(slices.Clone(l), 0, 1, 2)
		given := whole[:len(l)]
		for label := range 5 {
			seen := 0
			for r := table.Next(given, label, 0); r >= 0 && r < 300; r = table.Next(given, label, r+1) {
				if table.At(given, r) != label || table.Slots(given, label, 0, r) != seen {
					t.Errorf("round %d: At %d, %d rounds of %d before it; want %d, %d", r, table.At(given, r), table.Slots(given, label, 0, r), label, label, seen)
				}
				seen++
			}
			if got := table.Slots(given, label, 0, 300); got != seen {
				t.Errorf("Slots(%v, %d, 0, 300): %d, want %d", given, label, got, seen)
			}
		}
		table.Right(given, 3)
		table.All(given, 3)
		if !slices.Equal(whole, append(slices.Clone(l), 0, 1, 2)) {
			t.Errorf("the table is now %v", whole)
		}
	}
}

func TestP18_1_SideBySide(t *testing.T) {
	shared := []int{0, 1, 2, 1}
	var all sync.WaitGroup
	for g := range 8 {
		all.Go(func() {
			if table.At(shared, g) != shared[g%4] || !table.All(shared, 3) || table.Next(shared, 2, 4*g) != 4*g+2 || table.Slots(shared, 1, 0, 4*g) != 2*g {
				t.Errorf("round %d of a shared table", g)
			}
		})
	}
	all.Wait()
}
