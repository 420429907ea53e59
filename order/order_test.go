package order

import (
	"math"
	"slices"
	"testing"

	"confidant/api"
)

// scramble yields numbers: the same ones in every run.
func scramble(seed uint64) func(n int) int {
	return func(n int) int {
		seed = seed*6364136223846793005 + 1442695040888963407
		return int(seed>>33) % n
	}
}

// tableOf has n rows of n: a flows to b where flows says so.
func tableOf(n int, flows func(a, b int) bool) [][]bool {
	leq := make([][]bool, n)
	for a := range leq {
		leq[a] = make([]bool, n)
		for b := range leq[a] {
			leq[a][b] = flows(a, b)
		}
	}
	return leq
}

func full(n int) [][]bool  { return tableOf(n, func(a, b int) bool { return true }) }
func none(n int) [][]bool  { return tableOf(n, func(a, b int) bool { return false }) }
func alone(n int) [][]bool { return tableOf(n, func(a, b int) bool { return a == b }) }
func chain(n int) [][]bool { return tableOf(n, func(a, b int) bool { return a <= b }) }
func bits(n int) [][]bool  { return tableOf(n, func(a, b int) bool { return a&^b == 0 }) }

// crown is an order in which 0 and 1 flow to 2 and 3: their bounds are two that do not flow to each other.
func crown() [][]bool {
	return tableOf(4, func(a, b int) bool { return a == b || a < 2 && b >= 2 })
}

// ring is the relation of n elements, each of which flows to itself and to the next one.
func ring(n int) [][]bool {
	return tableOf(n, func(a, b int) bool { return a == b || (a+1)%n == b })
}

func scrambled(n, percent int, next func(int) int) [][]bool {
	return tableOf(n, func(a, b int) bool { return next(100) < percent })
}

// smallTables are all tables of 1 to 3 elements.
func smallTables() [][][]bool {
	var all [][][]bool
	for n := 1; n <= 3; n++ {
		for code := range 1 << (n * n) {
			all = append(all, tableOf(n, func(a, b int) bool { return code>>(a*n+b)&1 == 1 }))
		}
	}
	return all
}

// greaterTables are some of up to MaxLabels elements, orders among them.
func greaterTables() [][][]bool {
	all := [][][]bool{crown(), bits(4), bits(16)}
	next := scramble(1)
	for n := 4; n <= api.MaxLabels; n++ {
		all = append(all, full(n), none(n), alone(n), chain(n), ring(n))
		for _, percent := range []int{10, 50, 90} {
			all = append(all, scrambled(n, percent, next))
		}
	}
	return all
}

// notSquare are tables that Square refuses, though by their entries some have all the other properties.
func notSquare() map[string][][]bool {
	long := full(2)
	long[1] = append(long[1], true)
	short := full(3)
	short[2] = short[2][:2]
	bare := full(3)
	bare[0] = nil
	tail := append(full(3), nil)
	wide := full(4)[:3]
	tall := full(3)
	for a := range tall {
		tall[a] = tall[a][:2]
	}
	hidden := [][]bool{make([]bool, 1, 2), make([]bool, 2)}
	return map[string][][]bool{
		"nil": nil, "empty": {}, "one nil row": {nil}, "one empty row": {{}}, "two empty rows": {{}, {}},
		"one long row": long, "one short row": short, "one nil row of three": bare, "a nil row more": tail,
		"all rows long": wide, "all rows short": tall, "a short row with capacity": hidden,
		"17 in a chain": chain(api.MaxLabels + 1), "17 alone": alone(api.MaxLabels + 1), "17 full": full(api.MaxLabels + 1),
		"40 full": full(40), "17 nil rows": make([][]bool, api.MaxLabels+1),
	}
}

func outside(n int) []int {
	return []int{-1, -n, -n - 1, n, n + 1, api.MaxLabels, math.MaxInt, math.MinInt, 1 << 32, -1 << 32}
}

// The slow ones say in one line each what P2.1 says; pairs are asked in the order of all(n).

func all(n int) []int {
	l := make([]int, n)
	for a := range l {
		l[a] = a
	}
	return l
}

func every(l []int, holds func(a int) bool) bool {
	return !slices.ContainsFunc(l, func(a int) bool { return !holds(a) })
}

func those(l []int, holds func(a int) bool) []int {
	return slices.DeleteFunc(slices.Clone(l), func(a int) bool { return !holds(a) })
}

func first(l []int, holds func(a int) bool) (int, bool) {
	if i := slices.IndexFunc(l, holds); i >= 0 {
		return l[i], true
	}
	return 0, false
}

func slowReflexive(leq [][]bool) bool {
	return every(all(len(leq)), func(a int) bool { return leq[a][a] })
}

func slowAntisymmetric(leq [][]bool) bool {
	l := all(len(leq))
	return every(l, func(a int) bool {
		return every(l, func(b int) bool { return a == b || !leq[a][b] || !leq[b][a] })
	})
}

func slowTransitive(leq [][]bool) bool {
	l := all(len(leq))
	return every(l, func(b int) bool {
		from := those(l, func(a int) bool { return leq[a][b] })
		to := those(l, func(c int) bool { return leq[b][c] })
		return every(from, func(a int) bool {
			return every(to, func(c int) bool { return leq[a][c] })
		})
	})
}

func slowUpper(leq [][]bool, a, b int) []int {
	return those(all(len(leq)), func(c int) bool { return leq[a][c] && leq[b][c] })
}

func slowLower(leq [][]bool, a, b int) []int {
	return those(all(len(leq)), func(c int) bool { return leq[c][a] && leq[c][b] })
}

func slowLeast(leq [][]bool, l []int) (int, bool) {
	return first(l, func(a int) bool { return every(l, func(b int) bool { return leq[a][b] }) })
}

func slowGreatest(leq [][]bool, l []int) (int, bool) {
	return first(l, func(a int) bool { return every(l, func(b int) bool { return leq[b][a] }) })
}

func checkProperties(t *testing.T, leq [][]bool) {
	t.Helper()
	if !Square(leq) {
		t.Errorf("Square of %v: false", leq)
	}
	if got, want := Reflexive(leq), slowReflexive(leq); got != want {
		t.Errorf("Reflexive of %v: %v", leq, got)
	}
	if got, want := Antisymmetric(leq), slowAntisymmetric(leq); got != want {
		t.Errorf("Antisymmetric of %v: %v", leq, got)
	}
	if got, want := Transitive(leq), slowTransitive(leq); got != want {
		t.Errorf("Transitive of %v: %v", leq, got)
	}
}

func checkBounds(t *testing.T, leq [][]bool) {
	t.Helper()
	for a := range leq {
		for b := range leq {
			if got, want := Upper(leq, a, b), slowUpper(leq, a, b); !slices.Equal(got, want) {
				t.Errorf("Upper of %d, %d in %v: %d, want %d", a, b, leq, got, want)
			}
			if got, want := Lower(leq, a, b), slowLower(leq, a, b); !slices.Equal(got, want) {
				t.Errorf("Lower of %d, %d in %v: %d, want %d", a, b, leq, got, want)
			}
		}
	}
}

func checkExtremes(t *testing.T, leq [][]bool, l []int) {
	t.Helper()
	x, ok := Least(leq, l)
	if want, found := slowLeast(leq, l); x != want || ok != found {
		t.Errorf("Least of %d in %v: %d, %v, want %d, %v", l, leq, x, ok, want, found)
	}
	x, ok = Greatest(leq, l)
	if want, found := slowGreatest(leq, l); x != want || ok != found {
		t.Errorf("Greatest of %d in %v: %d, %v, want %d, %v", l, leq, x, ok, want, found)
	}
}

func TestP2_1_Square(t *testing.T) {
	for n := 1; n <= api.MaxLabels; n++ {
		for _, leq := range [][][]bool{full(n), none(n), chain(n)} {
			if !Square(leq) {
				t.Errorf("%d rows of %d: not Square", n, n)
			}
		}
	}
	for name, leq := range notSquare() {
		if Square(leq) {
			t.Errorf("%s: Square", name)
		}
	}
}

func TestP2_1_NothingHoldsUnlessSquare(t *testing.T) {
	for name, leq := range notSquare() {
		if Reflexive(leq) || Antisymmetric(leq) || Transitive(leq) {
			t.Errorf("%s: %v, %v, %v", name, Reflexive(leq), Antisymmetric(leq), Transitive(leq))
		}
		for _, a := range []int{0, 1, 2, -1, 15, 16, math.MaxInt} {
			for _, b := range []int{0, 1, -1, 16, math.MinInt} {
				if u, l := Upper(leq, a, b), Lower(leq, a, b); u != nil || l != nil {
					t.Errorf("%s: Upper and Lower of %d, %d: %v, %v", name, a, b, u, l)
				}
			}
		}
		for _, l := range [][]int{nil, {}, {0}, {1}, {1, 0}, {2, 1, 0}, {16}, {-1}} {
			if a, ok := Least(leq, l); a != 0 || ok {
				t.Errorf("%s: Least of %d: %d, %v", name, l, a, ok)
			}
			if a, ok := Greatest(leq, l); a != 0 || ok {
				t.Errorf("%s: Greatest of %d: %d, %v", name, l, a, ok)
			}
		}
	}
}

func TestP2_1_PropertiesByName(t *testing.T) {
	for _, c := range []struct {
		name                                 string
		leq                                  [][]bool
		reflexive, antisymmetric, transitive bool
	}{
		{"one that flows to itself", full(1), true, true, true},
		{"one that does not", none(1), false, true, true},
		{"16 full", full(16), true, false, true},
		{"16 none", none(16), false, true, true},
		{"16 alone", alone(16), true, true, true},
		{"16 in a chain", chain(16), true, true, true},
		{"16 sets", bits(16), true, true, true},
		{"a crown", crown(), true, true, true},
		{"a ring of 2", ring(2), true, false, true},
		{"a ring of 3", ring(3), true, true, false},
		{"a ring of 16", ring(16), true, true, false},
		{"there and back", [][]bool{{false, true}, {true, false}}, false, false, false},
		{"only the last does not flow to itself", [][]bool{{true, true}, {false, false}}, false, true, true},
		{"a way through the middle only", [][]bool{{true, true, false}, {false, true, true}, {false, false, true}}, true, true, false},
		{"the same, upside down", [][]bool{{true, false, false}, {true, true, false}, {false, true, true}}, true, true, false},
	} {
		if r, a, x := Reflexive(c.leq), Antisymmetric(c.leq), Transitive(c.leq); r != c.reflexive || a != c.antisymmetric || x != c.transitive {
			t.Errorf("%s: %v, %v, %v", c.name, r, a, x)
		}
	}
}

func TestP2_1_Properties(t *testing.T) {
	for _, leq := range smallTables() {
		checkProperties(t, leq)
	}
	for _, leq := range greaterTables() {
		checkProperties(t, leq)
	}
}

// One entry decides, wherever it stands.
func TestP2_1_EveryEntryCounts(t *testing.T) {
	for n := 2; n <= api.MaxLabels; n++ {
		for a := range n {
			for b := range n {
				leq := chain(n)
				leq[a][b] = !leq[a][b]
				checkProperties(t, leq)
				leq = alone(n)
				leq[a][b] = !leq[a][b]
				checkProperties(t, leq)
			}
		}
	}
}

func TestP2_1_BoundsByName(t *testing.T) {
	for _, c := range []struct {
		name         string
		leq          [][]bool
		a, b         int
		upper, lower []int
	}{
		{"alone", alone(3), 0, 1, nil, nil},
		{"alone, the same twice", alone(3), 2, 2, []int{2}, []int{2}},
		{"none, the same twice", none(3), 1, 1, nil, nil},
		{"chain", chain(4), 1, 2, []int{2, 3}, []int{0, 1}},
		{"chain, turned", chain(4), 2, 1, []int{2, 3}, []int{0, 1}},
		{"chain, the ends", chain(16), 0, 15, []int{15}, []int{0}},
		{"sets", bits(4), 1, 2, []int{3}, []int{0}},
		{"sets of four things", bits(16), 3, 6, []int{7, 15}, []int{0, 2}},
		{"crown, below", crown(), 0, 1, []int{2, 3}, nil},
		{"crown, above", crown(), 2, 3, nil, []int{0, 1}},
		{"full", full(3), 0, 2, []int{0, 1, 2}, []int{0, 1, 2}},
		{"ring", ring(3), 0, 1, []int{1}, []int{0}},
	} {
		if u, l := Upper(c.leq, c.a, c.b), Lower(c.leq, c.a, c.b); !slices.Equal(u, c.upper) || !slices.Equal(l, c.lower) {
			t.Errorf("%s: Upper %d, Lower %d", c.name, u, l)
		}
	}
}

func TestP2_1_Bounds(t *testing.T) {
	for _, leq := range smallTables() {
		checkBounds(t, leq)
	}
	for _, leq := range greaterTables() {
		checkBounds(t, leq)
	}
}

func TestP2_1_BoundsOfNoIndex(t *testing.T) {
	for _, n := range []int{1, 2, 3, 15, 16} {
		leq := full(n)
		for _, x := range outside(n) {
			for _, pair := range [][2]int{{x, 0}, {0, x}, {x, x}, {n - 1, x}, {x, n - 1}} {
				if u, l := Upper(leq, pair[0], pair[1]), Lower(leq, pair[0], pair[1]); u != nil || l != nil {
					t.Errorf("%d elements: Upper and Lower of %d: %d, %d", n, pair, u, l)
				}
			}
		}
	}
}

func TestP2_1_ExtremesByName(t *testing.T) {
	type found struct {
		a  int
		ok bool
	}
	no := found{}
	for _, c := range []struct {
		name            string
		leq             [][]bool
		l               []int
		least, greatest found
	}{
		{"nil", chain(3), nil, no, no},
		{"empty", chain(3), []int{}, no, no},
		{"one", chain(3), []int{2}, found{2, true}, found{2, true}},
		{"the first label", chain(3), []int{0}, found{0, true}, found{0, true}},
		{"one that does not flow to itself", none(3), []int{2}, no, no},
		{"the least does not flow to itself", [][]bool{{false, true}, {false, true}}, []int{0, 1}, no, found{1, true}},
		{"the greatest does not flow to itself", [][]bool{{true, true}, {false, false}}, []int{0, 1}, found{0, true}, no},
		{"chain", chain(5), []int{3, 1, 4, 2}, found{1, true}, found{4, true}},
		{"chain, with repetitions", chain(5), []int{3, 3, 1, 4, 1, 4}, found{1, true}, found{4, true}},
		{"alone", alone(3), []int{1, 2}, no, no},
		{"alone, the same twice", alone(3), []int{1, 1}, found{1, true}, found{1, true}},
		{"crown, a bottom only", crown(), []int{3, 2, 0}, found{0, true}, no},
		{"crown, a top only", crown(), []int{0, 1, 3}, no, found{3, true}},
		{"crown", crown(), []int{0, 1, 2, 3}, no, no},
		{"full, the first of many", full(4), []int{2, 0, 3, 1}, found{2, true}, found{2, true}},
		{"full, the first of two", full(4), []int{3, 0}, found{3, true}, found{3, true}},
		{"two of three are equal", [][]bool{{true, true, true}, {false, true, true}, {false, true, true}}, []int{2, 1, 0}, found{0, true}, found{2, true}},
		{"ring", ring(3), []int{0, 1, 2}, no, no},
		{"ring, two of it", ring(3), []int{0, 2}, found{2, true}, found{0, true}},
	} {
		if a, ok := Least(c.leq, c.l); (found{a, ok}) != c.least {
			t.Errorf("%s: Least: %d, %v", c.name, a, ok)
		}
		if a, ok := Greatest(c.leq, c.l); (found{a, ok}) != c.greatest {
			t.Errorf("%s: Greatest: %d, %v", c.name, a, ok)
		}
	}
}

func TestP2_1_ExtremesOfAllShortLists(t *testing.T) {
	for _, leq := range smallTables() {
		n := len(leq)
		checkExtremes(t, leq, nil)
		for a := range n {
			checkExtremes(t, leq, []int{a})
			for b := range n {
				checkExtremes(t, leq, []int{a, b})
				for c := range n {
					checkExtremes(t, leq, []int{a, b, c})
				}
			}
		}
	}
}

func TestP2_1_ExtremesOfLists(t *testing.T) {
	next := scramble(2)
	for _, leq := range greaterTables() {
		checkExtremes(t, leq, all(len(leq)))
		for a := range leq {
			checkExtremes(t, leq, Upper(leq, 0, a))
			checkExtremes(t, leq, Lower(leq, a, len(leq)-1))
		}
		for range 30 {
			l := make([]int, next(2*len(leq)))
			for i := range l {
				l[i] = next(len(leq))
			}
			checkExtremes(t, leq, l)
		}
	}
}

func TestP2_1_ExtremesOfNoIndex(t *testing.T) {
	for _, n := range []int{1, 2, 15, 16} {
		leq := full(n)
		for _, x := range outside(n) {
			for _, l := range [][]int{{x}, {x, 0}, {0, x}, {0, n - 1, x, 0}, {x, x}} {
				if a, ok := Least(leq, l); a != 0 || ok {
					t.Errorf("%d elements: Least of %d: %d, %v", n, l, a, ok)
				}
				if a, ok := Greatest(leq, l); a != 0 || ok {
					t.Errorf("%d elements: Greatest of %d: %d, %v", n, l, a, ok)
				}
			}
		}
	}
}

// longList repeats two labels, and has a third one only at its end.
func longList(often, other, last int) []int {
	l := make([]int, 1<<21)
	for i := range l {
		l[i] = often
		if i%2 == 1 {
			l[i] = other
		}
	}
	l[len(l)-1] = last
	return l
}

// To compare every element of such a list with every other one would take hours.
func TestP2_1_ExtremesOfALongList(t *testing.T) {
	leq := chain(3)
	if a, ok := Least(leq, longList(1, 2, 0)); a != 0 || !ok {
		t.Errorf("Least: %d, %v", a, ok)
	}
	if a, ok := Greatest(leq, longList(1, 0, 2)); a != 2 || !ok {
		t.Errorf("Greatest: %d, %v", a, ok)
	}
	leq = alone(3)
	if a, ok := Least(leq, longList(1, 1, 0)); a != 0 || ok {
		t.Errorf("Least of two alone: %d, %v", a, ok)
	}
	if a, ok := Greatest(leq, longList(1, 1, 0)); a != 0 || ok {
		t.Errorf("Greatest of two alone: %d, %v", a, ok)
	}
}

// answers asks a table everything, and tells the answers as numbers.
func answers(leq [][]bool, l []int) []int {
	var out []int
	tell := func(yes bool) {
		if yes {
			out = append(out, 1)
		} else {
			out = append(out, 0)
		}
	}
	tell(Square(leq))
	tell(Reflexive(leq))
	tell(Antisymmetric(leq))
	tell(Transitive(leq))
	for a := range leq {
		for b := range leq {
			out = append(append(out, -1), Upper(leq, a, b)...)
			out = append(append(out, -2), Lower(leq, a, b)...)
		}
	}
	a, ok := Least(leq, l)
	out = append(out, a)
	tell(ok)
	a, ok = Greatest(leq, l)
	out = append(out, a)
	tell(ok)
	return out
}

func cloned(leq [][]bool) [][]bool {
	out := make([][]bool, len(leq))
	for a := range leq {
		out[a] = slices.Clone(leq[a])
	}
	return out
}

// spaced holds the same table between other entries: each row has spare capacity, and so has the table.
func spaced(leq [][]bool, fill bool) [][]bool {
	out := make([][]bool, len(leq)+3)
	for a := range out {
		out[a] = make([]bool, len(leq)+3)
		for b := range out[a] {
			out[a][b] = fill
		}
	}
	for a := range leq {
		copy(out[a], leq[a])
		out[a] = out[a][:len(leq)]
	}
	return out[:len(leq)]
}

func TestP2_2_TheTableDecides(t *testing.T) {
	tables := append(smallTables(), greaterTables()...)
	for i, leq := range tables {
		l := all(len(leq))
		want := answers(leq, l)
		answers(tables[(i+1)%len(tables)], nil) // what is asked in between is of no account
		for _, same := range [][][]bool{leq, cloned(leq), spaced(leq, false), spaced(leq, true)} {
			if got := answers(same, l); !slices.Equal(got, want) {
				t.Fatalf("the same table, other answers: %v: %d, %d", leq, want, got)
			}
		}
	}
}

func TestP2_2_AnEntryThatChangesIsSeen(t *testing.T) {
	leq := chain(3)
	if !Reflexive(leq) || !Transitive(leq) || !Antisymmetric(leq) || len(Upper(leq, 0, 2)) != 1 {
		t.Error("a chain is no order")
	}
	leq[0][2], leq[2][1] = false, true
	if !Reflexive(leq) || Transitive(leq) || Antisymmetric(leq) || len(Upper(leq, 0, 2)) != 1 || Upper(leq, 0, 2)[0] != 1 {
		t.Error("the answers are those of the table as it was")
	}
	leq[2] = leq[2][:2]
	if Square(leq) || Reflexive(leq) || Upper(leq, 0, 1) != nil {
		t.Error("a row that was cut off is not seen")
	}
}

// Rows may be one slice: a table is what it tells, not where it lies.
func TestP2_2_RowsThatAreOneSlice(t *testing.T) {
	row := []bool{true, false, true}
	leq := [][]bool{row, row, row}
	if want := answers(cloned(leq), []int{2, 0}); !slices.Equal(answers(leq, []int{2, 0}), want) {
		t.Error("a table of one row, three times, has other answers than its copy")
	}
}

func TestP2_2_ArgumentsAreLeftAlone(t *testing.T) {
	for _, leq := range append(smallTables(), greaterTables()...) {
		n := len(leq)
		given := spaced(leq, true)
		list := append(append(all(n), all(n)...), 77, 78)
		was := slices.Clone(list)
		answers(given, list[:2*n])
		if !slices.Equal(list, was) {
			t.Fatalf("the list was changed: %d", list)
		}
		for a, row := range given[:n+3] {
			for b, x := range row[:n+3] {
				want := true
				if a < n && b < n {
					want = leq[a][b]
				}
				if x != want {
					t.Fatalf("%v: entry %d, %d was changed", leq, a, b)
				}
			}
		}
	}
}

func TestP2_2_ResultsAreNewMemory(t *testing.T) {
	leq := full(4)
	for name, bounds := range map[string]func([][]bool, int, int) []int{"Upper": Upper, "Lower": Lower} {
		x := bounds(leq, 0, 1)
		y := bounds(leq, 0, 1)
		for i := range x {
			x[i] = 99
		}
		_ = append(x, 99)
		if want := all(4); !slices.Equal(y, want) || !slices.Equal(bounds(leq, 0, 1), want) {
			t.Errorf("results of %s share memory: %d", name, y)
		}
	}
}
