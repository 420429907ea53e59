package lattice

import (
	"math"
	"slices"
	"testing"

	"confidant/api"
)

// scramble yields numbers: the same ones in every run.
func scramble(seed uint64) func(n int) int {
	return func(n int) int {
		seed = seed*6364136223846793005 + 1442695040888963407
		return int(seed>>33) % n
	}
}

// relation has n rows of n: a flows to b where flows says so.
func relation(n int, flows func(a, b int) bool) [][]bool {
	var leq [][]bool
	for a := range n {
		leq = append(leq, nil)
		for b := range n {
			leq[a] = append(leq[a], flows(a, b))
		}
	}
	return leq
}

// read has a row for each text: 1 where it flows.
func read(rows ...string) [][]bool {
	return relation(len(rows), func(a, b int) bool { return rows[a][b] == '1' })
}

func cloned(leq [][]bool) [][]bool {
	var out [][]bool
	for _, row := range leq {
		out = append(out, slices.Clone(row))
	}
	return out
}

// renamed is the same relation of other names: a is names[a].
func renamed(leq [][]bool, names []int) [][]bool {
	out := cloned(leq)
	for a := range leq {
		for b := range leq {
			out[names[a]][names[b]] = leq[a][b]
		}
	}
	return out
}

// shuffled are the numbers below n in some order.
func shuffled(n int, next func(int) int) []int {
	var l []int
	for a := range n {
		l = slices.Insert(l, next(len(l)+1), a)
	}
	return l
}

// closed adds to a relation all that it needs to be reflexive and transitive.
func closed(leq [][]bool) [][]bool {
	out := cloned(leq)
	for a := range out {
		out[a][a] = true
	}
	for b := range out {
		for a := range out {
			for c := range out {
				out[a][c] = out[a][c] || out[a][b] && out[b][c]
			}
		}
	}
	return out
}

// fan is a lattice: n - 2 labels side by side, 0 under all of them, n-1 above.
func fan(n int) [][]bool {
	return relation(n, func(a, b int) bool { return a == b || a == 0 || b == n-1 })
}

// grid is the lattice of pairs: each of the two goes its own way.
func grid(wide, high int) [][]bool {
	return relation(wide*high, func(a, b int) bool { return a/high <= b/high && a%high <= b%high })
}

// pentagon is the least lattice that is not modular: 0 under 1 under 2 under 4, and 3 beside 1 and 2.
func pentagon() [][]bool {
	return read("11111", "01101", "00101", "00011", "00001")
}

// crown is an order in which 1 and 2 flow to 3 and 4, with a bottom and a top, but without a least bound of 1 and 2.
func crown() [][]bool {
	return read("111111", "010111", "001111", "000101", "000011", "000001")
}

// The slow ones say what P3.1 says, pair by pair, and know no other layer.

func slowOrder(leq [][]bool) bool {
	n := len(leq)
	if n < 1 || n > api.MaxLabels {
		return false
	}
	for _, row := range leq {
		if len(row) != n {
			return false
		}
	}
	for a := range n {
		for b := range n {
			if leq[a][b] && leq[b][a] != (a == b) || a == b && !leq[a][b] {
				return false
			}
			for c := range n {
				if leq[a][b] && leq[b][c] && !leq[a][c] {
					return false
				}
			}
		}
	}
	return true
}

// slowBound returns the one bound of a and b that flows to all their bounds, or -1.
func slowBound(flows func(a, b int) bool, n, a, b int) int {
	out := -1
	for c := range n {
		if !flows(a, c) || !flows(b, c) {
			continue
		}
		least := true
		for d := range n {
			if flows(a, d) && flows(b, d) && !flows(c, d) {
				least = false
			}
		}
		if least {
			out = c
		}
	}
	return out
}

func slowJoin(leq [][]bool, a, b int) int {
	return slowBound(func(a, b int) bool { return leq[a][b] }, len(leq), a, b)
}

func slowMeet(leq [][]bool, a, b int) int {
	return slowBound(func(a, b int) bool { return leq[b][a] }, len(leq), a, b)
}

func slowLattice(leq [][]bool) bool {
	if !slowOrder(leq) {
		return false
	}
	for a := range leq {
		for b := range leq {
			if slowJoin(leq, a, b) < 0 || slowMeet(leq, a, b) < 0 {
				return false
			}
		}
	}
	return true
}

func slowBelow(leq [][]bool, a int) []int {
	var out []int
	for b := range leq {
		if leq[b][a] {
			out = append(out, b)
		}
	}
	return out
}

// smallTables are all tables of 1 to 3 labels, and all of 4 labels that flow to themselves.
func smallTables() [][][]bool {
	var all [][][]bool
	for n := 1; n <= 3; n++ {
		for code := range 1 << (n * n) {
			all = append(all, relation(n, func(a, b int) bool { return code>>(a*n+b)&1 == 1 }))
		}
	}
	for code := range 1 << 12 {
		all = append(all, relation(4, func(a, b int) bool { return a == b || code>>(a*3+(b+3-a)%4)&1 == 1 }))
	}
	return all
}

// lattices are some of each size, under several names.
func lattices() [][][]bool {
	all := [][][]bool{{{true}}, pentagon()}
	for n := 2; n <= api.MaxLabels; n++ {
		all = append(all, relation(n, func(a, b int) bool { return a <= b }), fan(n))
	}
	for wide := 2; wide <= 8; wide++ {
		for high := 2; wide*high <= api.MaxLabels; high++ {
			all = append(all, grid(wide, high))
		}
	}
	for n := range 5 {
		all = append(all, relation(1<<n, func(a, b int) bool { return a|b == b }))
	}
	next := scramble(1)
	for _, leq := range all {
		for range 3 {
			all = append(all, renamed(leq, shuffled(len(leq), next)))
		}
	}
	return all
}

// closures are reflexive and transitive tables: many are orders, few are lattices.
func closures() [][][]bool {
	var all [][][]bool
	next := scramble(2)
	for n := 4; n <= api.MaxLabels; n++ {
		for _, percent := range []int{5, 10, 20, 40} {
			for range 10 {
				leq := closed(relation(n, func(a, b int) bool { return a == 0 || b == n-1 || a < b && next(100) < percent }))
				all = append(all, leq, renamed(leq, shuffled(n, next)))
			}
		}
	}
	return all
}

func outside(n int) []int {
	return []int{-1, -2, -n, n, n + 1, api.MaxLabels, math.MaxInt, math.MinInt, 1 << 32, -1 << 32}
}

// made is the lattice of leq, or ends the test.
func made(t *testing.T, leq [][]bool) *Lattice {
	t.Helper()
	l, e := New(leq)
	if e != api.OK || l == nil {
		t.Fatalf("%v: %v, error %d", leq, l, e)
	}
	return l
}

// checkNew asks for the lattice of leq, and for everything of it.
func checkNew(t *testing.T, leq [][]bool) {
	t.Helper()
	l, e := New(leq)
	if !slowLattice(leq) {
		if l != nil || e != api.ErrLattice {
			t.Errorf("%v is no lattice: %v, error %d", leq, l, e)
		}
		return
	}
	if l == nil || e != api.OK {
		t.Errorf("%v is a lattice: %v, error %d", leq, l, e)
		return
	}
	checkAnswers(t, l, leq)
}

func checkAnswers(t *testing.T, l *Lattice, leq [][]bool) {
	t.Helper()
	if l.Len() != len(leq) {
		t.Errorf("%v: Len %d", leq, l.Len())
	}
	for a := range leq {
		for b := range leq {
			if got := l.Flows(a, b); got != leq[a][b] {
				t.Errorf("%v: Flows of %d, %d: %v", leq, a, b, got)
			}
			if got, want := l.Join(a, b), slowJoin(leq, a, b); got != want {
				t.Errorf("%v: Join of %d, %d: %d, want %d", leq, a, b, got, want)
			}
			if got, want := l.Meet(a, b), slowMeet(leq, a, b); got != want {
				t.Errorf("%v: Meet of %d, %d: %d, want %d", leq, a, b, got, want)
			}
		}
		if got, want := l.Below(a), slowBelow(leq, a); !slices.Equal(got, want) {
			t.Errorf("%v: Below of %d: %d, want %d", leq, a, got, want)
		}
		if !leq[l.Bottom()][a] || !leq[a][l.Top()] {
			t.Errorf("%v: Bottom %d, Top %d", leq, l.Bottom(), l.Top())
		}
	}
}

func TestP3_1_SmallTables(t *testing.T) {
	found := map[int]int{}
	for _, leq := range smallTables() {
		checkNew(t, leq)
		if _, e := New(leq); e == api.OK {
			found[len(leq)]++
		}
	}
	for n, want := range map[int]int{1: 1, 2: 2, 3: 6, 4: 36} {
		if found[n] != want {
			t.Errorf("%d lattices of %d labels, want %d", found[n], n, want)
		}
	}
}

func TestP3_1_Lattices(t *testing.T) {
	for _, leq := range lattices() {
		if _, e := New(leq); e != api.OK {
			t.Errorf("%v: error %d", leq, e)
		}
		checkNew(t, leq)
	}
}

func TestP3_1_Orders(t *testing.T) {
	var yes, no int
	for _, leq := range closures() {
		checkNew(t, leq)
		if _, e := New(leq); e == api.OK {
			yes++
		} else {
			no++
		}
	}
	if yes < 50 || no < 50 {
		t.Errorf("%d lattices and %d others are too few to tell", yes, no)
	}
}

// One entry decides, wherever it stands.
func TestP3_1_EveryEntryCounts(t *testing.T) {
	for _, leq := range lattices()[:40] {
		for a := range leq {
			for b := range leq {
				other := cloned(leq)
				other[a][b] = !other[a][b]
				checkNew(t, other)
			}
		}
	}
}

func TestP3_1_NoLattice(t *testing.T) {
	long := Chain(3)
	long[1] = append(long[1], true)
	short := Chain(3)
	short[2] = short[2][:2]
	bare := Chain(3)
	bare[1] = nil
	large := relation(api.MaxLabels+1, func(a, b int) bool { return a <= b })
	for name, leq := range map[string][][]bool{
		"nil": nil, "empty": {}, "a nil row": {nil}, "an empty row": {{}}, "two for one": {{true, true}}, "two rows of one": {{true}, {true}},
		"a long row": long, "a short row": short, "a row that is nil": bare, "a row more": append(Chain(3), nil),
		"17 labels": large, "16 rows of 17": large[:17:17][1:], "40 labels": relation(40, func(a, b int) bool { return a <= b }),
		"not reflexive":       read("0"),
		"the last is not":     read("11", "00"),
		"not antisymmetric":   read("11", "11"),
		"two in the middle":   read("1111", "0111", "0111", "0001"),
		"not transitive":      read("110", "011", "001"),
		"nor this":            read("1111", "0110", "0011", "0001"),
		"side by side":        read("10", "01"),
		"no bottom":           read("101", "011", "001"),
		"no top":              read("111", "010", "001"),
		"two bounds":          crown(),
		"two bounds, no top":  read("11111", "01011", "00111", "00010", "00001"),
		"four, two and two":   read("1011", "0111", "0010", "0001"),
		"all flows nowhere":   read("000", "000", "000"),
		"all flow everywhere": read("111", "111", "111"),
	} {
		if l, e := New(leq); l != nil || e != api.ErrLattice {
			t.Errorf("%s: %v, error %d", name, l, e)
		}
	}
}

func TestP3_1_ByName(t *testing.T) {
	for _, c := range []struct {
		name             string
		leq              [][]bool
		a, b, join, meet int
		bottom, top      int
		below            []int // of a
	}{
		{"one label", Chain(1), 0, 0, 0, 0, 0, 0, []int{0}},
		{"the chapter's example", Powers(2), 1, 2, 3, 0, 0, 3, []int{0, 1}},
		{"things in common", Powers(4), 6, 12, 14, 4, 0, 15, []int{0, 2, 4, 6}},
		{"nothing in common", Powers(4), 5, 10, 15, 0, 0, 15, []int{0, 1, 4, 5}},
		{"the same twice", Powers(3), 5, 5, 5, 5, 0, 7, []int{0, 1, 4, 5}},
		{"a chain", Chain(16), 9, 3, 9, 3, 0, 15, []int{0, 1, 2, 3, 4, 5, 6, 7, 8, 9}},
		{"a chain, turned", Chain(16), 3, 9, 9, 3, 0, 15, []int{0, 1, 2, 3}},
		{"a pentagon", pentagon(), 3, 1, 4, 0, 0, 4, []int{0, 3}},
		{"a pentagon, its side", pentagon(), 2, 1, 2, 1, 0, 4, []int{0, 1, 2}},
		{"a fan", fan(16), 7, 8, 15, 0, 0, 15, []int{0, 7}},
		{"the greatest number is the bottom", read("100", "110", "111"), 1, 2, 1, 2, 2, 0, []int{1, 2}},
		{"the bottom is in the middle", read("1001", "1111", "0011", "0001"), 0, 2, 3, 1, 1, 3, []int{0, 1}},
	} {
		l := made(t, c.leq)
		if j, m := l.Join(c.a, c.b), l.Meet(c.a, c.b); j != c.join || m != c.meet {
			t.Errorf("%s: Join %d, Meet %d", c.name, j, m)
		}
		if b, x := l.Bottom(), l.Top(); b != c.bottom || x != c.top {
			t.Errorf("%s: Bottom %d, Top %d", c.name, b, x)
		}
		if got := l.Below(c.a); !slices.Equal(got, c.below) {
			t.Errorf("%s: Below %d", c.name, got)
		}
	}
}

func TestP3_1_NoLabels(t *testing.T) {
	for _, n := range []int{1, 2, 3, 15, 16} {
		l := made(t, Chain(n))
		for _, x := range outside(n) {
			for _, pair := range [][2]int{{x, 0}, {0, x}, {x, x}, {n - 1, x}, {x, n - 1}} {
				a, b := pair[0], pair[1]
				if l.Flows(a, b) || l.Join(a, b) != -1 || l.Meet(a, b) != -1 {
					t.Errorf("%d labels: Flows, Join, Meet of %d: %v, %d, %d", n, pair, l.Flows(a, b), l.Join(a, b), l.Meet(a, b))
				}
			}
			if got := l.Below(x); got != nil {
				t.Errorf("%d labels: Below of %d: %d", n, x, got)
			}
		}
	}
}

// spaced holds the same table between other entries: each row has spare capacity, and so has the table.
func spaced(leq [][]bool) [][]bool {
	n := len(leq)
	out := relation(n+3, func(a, b int) bool { return a >= n || b >= n || leq[a][b] })
	for a := range leq {
		out[a] = out[a][:n]
	}
	return out[:n]
}

func TestP3_1_TheTableIsLeftAlone(t *testing.T) {
	for _, leq := range append(smallTables(), lattices()...) {
		n := len(leq)
		given := spaced(leq)
		checkNew(t, given)
		for a, row := range given[:n+3] {
			for b, x := range row[:n+3] {
				if x != (a >= n || b >= n || leq[a][b]) {
					t.Fatalf("%v: entry %d, %d was changed", leq, a, b)
				}
			}
		}
	}
}

func TestP3_1_TheTableIsNotKept(t *testing.T) {
	for _, leq := range lattices() {
		given := cloned(leq)
		l := made(t, given)
		for a := range given {
			for b := range given {
				given[a][b] = !given[a][b]
			}
		}
		given[0] = nil
		checkAnswers(t, l, leq)
	}
}

func TestP3_1_ResultsAreNewMemory(t *testing.T) {
	l := made(t, Powers(4))
	x, y := l.Below(15), l.Below(15)
	for i := range x {
		x[i] = 99
	}
	_ = append(x, 99)
	if want := []int{0, 1, 2, 3, 4, 5, 6, 7, 8, 9, 10, 11, 12, 13, 14, 15}; !slices.Equal(y, want) || !slices.Equal(l.Below(15), want) {
		t.Errorf("results of Below share memory: %d, %d", y, l.Below(15))
	}
}

// Two lattices have nothing in common, and what is asked leaves no trace.
func TestP3_1_LatticesAreApart(t *testing.T) {
	x, y := made(t, Powers(2)), made(t, fan(5))
	checkAnswers(t, x, Powers(2))
	checkAnswers(t, y, fan(5))
	checkAnswers(t, x, Powers(2))
	for range 2 {
		if _, e := New(crown()); e != api.ErrLattice {
			t.Errorf("a crown: error %d", e)
		}
		checkAnswers(t, y, fan(5))
	}
}

func TestP3_2_Powers(t *testing.T) {
	for n := range 5 {
		leq := Powers(n)
		if len(leq) != 1<<n {
			t.Errorf("Powers of %d: %d rows", n, len(leq))
			continue
		}
		for a, row := range leq {
			if len(row) != 1<<n {
				t.Errorf("Powers of %d: row %d has %d entries", n, a, len(row))
				continue
			}
			for b, x := range row {
				want := true
				for thing := range n {
					if a>>thing&1 == 1 && b>>thing&1 == 0 {
						want = false
					}
				}
				if x != want {
					t.Errorf("Powers of %d: %d flows to %d: %v", n, a, b, x)
				}
			}
		}
		checkNew(t, leq)
	}
	for _, n := range []int{-1, -2, 5, 6, 16, 31, 32, 63, 64, 1 << 32, math.MaxInt, math.MinInt, math.MinInt + 1} {
		if leq := Powers(n); leq != nil {
			t.Errorf("Powers of %d: %d rows", n, len(leq))
		}
	}
}

func TestP3_2_Chain(t *testing.T) {
	for n := 1; n <= api.MaxLabels; n++ {
		leq := Chain(n)
		if len(leq) != n {
			t.Errorf("Chain of %d: %d rows", n, len(leq))
			continue
		}
		for a, row := range leq {
			if len(row) != n {
				t.Errorf("Chain of %d: row %d has %d entries", n, a, len(row))
				continue
			}
			for b, x := range row {
				if x != (a <= b) {
					t.Errorf("Chain of %d: %d flows to %d: %v", n, a, b, x)
				}
			}
		}
		checkNew(t, leq)
	}
	for _, n := range []int{0, -1, -16, 17, 18, 64, 1 << 32, math.MaxInt, math.MinInt} {
		if leq := Chain(n); leq != nil {
			t.Errorf("Chain of %d: %d rows", n, len(leq))
		}
	}
}

func TestP3_2_TablesAreNewMemory(t *testing.T) {
	for name, table := range map[string]func(int) [][]bool{"Powers": Powers, "Chain": Chain} {
		for n := 1; n <= 4; n++ {
			x, want := table(n), cloned(table(n))
			for a := range x {
				before := cloned(x)
				for b := range x[a] {
					x[a][b] = !x[a][b]
				}
				_ = append(x[a], true)
				before[a] = x[a]
				for b := range x {
					if !slices.Equal(x[b], before[b]) {
						t.Errorf("%s of %d: rows %d and %d share memory", name, n, a, b)
					}
				}
			}
			for a, row := range table(n) {
				if !slices.Equal(row, want[a]) {
					t.Errorf("%s of %d: row %d is that of an earlier result", name, n, a)
				}
			}
		}
	}
}

func TestP3_3_LeastLabelToWhichBothFlow(t *testing.T) {
	for _, leq := range append(smallTables(), append(lattices(), closures()...)...) {
		l, e := New(leq)
		if e != api.OK {
			continue
		}
		for a := range l.Len() {
			for b := range l.Len() {
				j := l.Join(a, b)
				if !l.Flows(a, j) || !l.Flows(b, j) || j != l.Join(b, a) {
					t.Errorf("%v: Join of %d, %d: %d", leq, a, b, j)
				}
				for c := range l.Len() {
					if l.Flows(a, c) && l.Flows(b, c) && !l.Flows(j, c) {
						t.Errorf("%v: %d and %d flow to %d, but their Join %d does not", leq, a, b, c, j)
					}
				}
			}
		}
	}
}

// Where two labels have no least label to which both flow, there is no lattice.
func TestP3_3_OrElseNoLattice(t *testing.T) {
	for _, leq := range append(smallTables(), closures()...) {
		if !slowOrder(leq) {
			continue
		}
		_, e := New(leq)
		for a := range leq {
			for b := range leq {
				if slowJoin(leq, a, b) < 0 && e != api.ErrLattice {
					t.Errorf("%v: error %d, but %d and %d have no Join", leq, e, a, b)
				}
			}
		}
	}
}
