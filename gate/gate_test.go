package gate_test

import (
	"math"
	"slices"
	"sync"
	"testing"

	"confidant/api"
	"confidant/gate"
	"confidant/lattice"
)

// outside are numbers that are no label and no gate, whatever the lattice is.
func outside() []int {
	return []int{math.MinInt, math.MinInt32, -1 << 32, -1<<32 + 1, -65536, -16, -2, -1, 16, 17, 31, 32, 255, 256, 65535, 65536, math.MaxInt32, 1 << 32, 1<<32 + 1, 1 << 48, math.MaxInt}
}

// scramble yields numbers: the same ones in every run.
func scramble(seed uint64) func(n int) int {
	return func(n int) int {
		seed = seed*6364136223846793005 + 1442695040888963407
		return int(seed>>33) % n
	}
}

func latticeOf(t *testing.T, leq [][]bool) *lattice.Lattice {
	t.Helper()
	l, err := lattice.New(leq)
	if err != api.OK {
		t.Fatalf("lattice.New: %d", err)
	}
	return l
}

// asks asks with a value and a task of their own, and then how often it has been allowed.
func asks(t *testing.T, g *gate.Gates, n, label int, privs uint32, v, by int32, want bool) {
	t.Helper()
	count := g.Asked(n, label)
	if want {
		count++
	}
	if got := g.Ask(n, label, privs, v, by); got != want || g.Asked(n, label) != count {
		t.Errorf("Ask(%d, %d, %#x, %d, %d): %v, and Asked %d; want %v, %d", n, label, privs, v, by, got, g.Asked(n, label), want, count)
	}
}

func opens(t *testing.T, g *gate.Gates, label, round int, want ...api.Record) {
	t.Helper()
	if got := g.Open(label, round); !slices.Equal(got, want) {
		t.Errorf("Open(%d, %d): %v, want %v", label, round, got, want)
	}
}

// takes asks for these values, and then for no more.
func takes(t *testing.T, g *gate.Gates, n int, want ...int32) {
	t.Helper()
	for _, v := range want {
		if got, ok := g.Take(n); got != v || !ok {
			t.Errorf("Take(%d): %d, %v; want %d", n, got, ok, v)
		}
	}
	if got, ok := g.Take(n); got != 0 || ok {
		t.Errorf("Take(%d) behind the last value: %d, %v", n, got, ok)
	}
}

func TestP21_1_Right(t *testing.T) {
	good := api.Gate{From: 2, To: 1, Need: 5, Quota: 7}
	if !gate.Right(good, 3) || !gate.Right(api.Gate{}, 1) {
		t.Error("Right of valid gates: false")
	}
	for _, labels := range []int{1, 2, 3, 15, 16, 17, 1000, math.MaxInt} {
		for _, label := range []int{math.MinInt, -1 << 32, -labels, -1, 0, 1, labels / 2, labels - 1, labels, labels + 1, math.MaxInt} {
			want := label >= 0 && label < labels
			if gate.Right(api.Gate{From: label}, labels) != want || gate.Right(api.Gate{To: label}, labels) != want || gate.Right(api.Gate{From: label, To: label}, labels) != want {
				t.Errorf("Right with label %d of %d: not %v", label, labels, want)
			}
		}
	}
	for _, labels := range []int{0, -1, -2, -1 << 32, math.MinInt} {
		for _, label := range []int{labels - 1, labels, -1, 0, 1} {
			if gate.Right(api.Gate{From: label, To: label}, labels) {
				t.Errorf("Right with label %d of %d: true", label, labels)
			}
		}
	}
	for bit := range 32 {
		g := good
		g.Need = 1 << bit
		if got := gate.Right(g, 3); got != (bit < 16) {
			t.Errorf("Right with need %#x: %v", g.Need, got)
		}
		g.Need |= 0xffff
		if got := gate.Right(g, 3); got != (bit < 16) {
			t.Errorf("Right with need %#x: %v", g.Need, got)
		}
	}
	for _, quota := range []int{math.MinInt, -1 << 32, -4096, -2, -1, 0, 1, 2, 16, 4095, 4096, 4097, 8192, 65536, 1 << 32, 1<<32 + 1, math.MaxInt} {
		g := good
		g.Quota = quota
		if got := gate.Right(g, 3); got != (quota >= 0 && quota <= 4096) {
			t.Errorf("Right with quota %d: %v", quota, got)
		}
	}
}

// TestP21_1_Flow: every pair of labels of several lattices.
func TestP21_1_Flow(t *testing.T) {
	for _, leq := range [][][]bool{lattice.Powers(0), lattice.Powers(1), lattice.Powers(2), lattice.Powers(4), lattice.Chain(3), lattice.Chain(16)} {
		l := latticeOf(t, leq)
		for from := range leq {
			for label := range leq {
				g := gate.New(l, api.Gate{From: from, To: 0, Quota: 1})
				asks(t, g, 0, label, 0, 5, 6, leq[label][from])
			}
			g := gate.New(l, api.Gate{From: from, To: 0, Quota: 1})
			for _, label := range append(outside(), len(leq)) {
				asks(t, g, 0, label, math.MaxUint32, 5, 6, false)
				if n := g.Asked(0, label); n != 0 {
					t.Errorf("Asked(0, %d): %d", label, n)
				}
			}
			opens(t, g, 0, 1)
		}
		for _, from := range append(outside(), len(leq)) {
			g := gate.New(l, api.Gate{From: from, To: 0, Quota: 1})
			for label := range leq {
				asks(t, g, 0, label, 0, 5, 6, false)
			}
			asks(t, g, 0, from, 0, 5, 6, false)
			opens(t, g, 0, 1)
		}
	}
}

// TestP21_1_NoLattice: then nothing may go down; the rest is as ever.
func TestP21_1_NoLattice(t *testing.T) {
	g := gate.New(nil, api.Gate{From: 1, To: 2, Quota: 9}, api.Gate{Quota: 9})
	for _, label := range append(outside(), 0, 1, 2, 15) {
		for n := range 3 {
			asks(t, g, n, label, math.MaxUint32, 1, 2, false)
			if g.Asked(n, label) != 0 {
				t.Errorf("Asked(%d, %d): %d", n, label, g.Asked(n, label))
			}
		}
		opens(t, g, label, 1)
	}
	takes(t, g, 0)
	if to, ok := g.To(0); to != 2 || !ok {
		t.Errorf("To(0): %d, %v", to, ok)
	}
}

// TestP21_1_Privileges: all that the gate needs, no matter what others there are.
func TestP21_1_Privileges(t *testing.T) {
	l := latticeOf(t, lattice.Chain(1))
	sets := []uint32{0, 1, 2, 3, 4, 5, 0x8000, 0x8001, 0xffff, 0x10000, 0xfffe, 0x80000000, 0x80000001, math.MaxUint32, 0xfffffffe, 0x7fffffff}
	for _, need := range sets {
		for _, privs := range sets {
			g := gate.New(l, api.Gate{Need: need, Quota: 1})
			asks(t, g, 0, 0, privs, 1, 2, need&privs == need)
		}
	}
	g := gate.New(l, api.Gate{Need: 6, Quota: 1})
	for _, privs := range []uint32{0, 2, 4, 8, 0xfffffff9} {
		asks(t, g, 0, 0, privs, 1, 2, false)
	}
	asks(t, g, 0, 0, 6, 3, 4, true)
	opens(t, g, 0, 5, api.Record{Value: 3, Round: 5, By: 4})
}

// TestP21_1_Quota: of each gate and each label; only what is allowed counts, and no release gives anything back.
func TestP21_1_Quota(t *testing.T) {
	l := latticeOf(t, lattice.Chain(3))
	for _, quota := range []int{math.MinInt, -1 << 32, -1, 0, 1, 2, 3, 4096, 4097, 5000, 1<<32 + 1, math.MaxInt} {
		g := gate.New(l, api.Gate{From: 2, To: 0, Need: 1, Quota: quota}, api.Gate{From: 2, To: 0, Need: 1, Quota: 1})
		most := min(max(quota, 0), 6000)
		for label := range 3 {
			for n := range most {
				if !g.Ask(0, label, 1, int32(n), 1) {
					t.Fatalf("Ask %d of quota %d at label %d: false", n, quota, label)
				}
				if n%100 == 0 {
					g.Open(0, n)
					asks(t, g, 0, label, 2, 0, 0, false)
					asks(t, g, 0, 3, 1, 0, 0, false)
				}
			}
			if quota < 6000 {
				asks(t, g, 0, label, 1, 0, 0, false)
				asks(t, g, 0, label, 1, 0, 0, false)
			}
			if g.Asked(0, label) != most {
				t.Errorf("Asked(0, %d): %d, want %d", label, g.Asked(0, label), most)
			}
			asks(t, g, 1, label, 1, 0, 0, true)
			asks(t, g, 1, label, 1, 0, 0, false)
		}
	}
}

// TestP21_1_NoSuchGate: neither with nor without gates.
func TestP21_1_NoSuchGate(t *testing.T) {
	l := latticeOf(t, lattice.Chain(16))
	gates := slices.Repeat([]api.Gate{{Quota: 5}}, 3)
	for size := range 4 {
		g := gate.New(l, gates[:size]...)
		for _, n := range append(outside(), 3, size) {
			asks(t, g, n, 0, 0, 1, 2, false)
			if _, ok := g.To(n); ok || g.Asked(n, 0) != 0 {
				t.Errorf("To(%d): %v; Asked %d", n, ok, g.Asked(n, 0))
			}
			takes(t, g, n)
		}
		opens(t, g, 0, 0)
	}
}

// TestP21_1_AnyNumberOfGates: MaxGates is no limit here.
func TestP21_1_AnyNumberOfGates(t *testing.T) {
	l := latticeOf(t, lattice.Chain(2))
	var gates []api.Gate
	for n := range 100 {
		gates = append(gates, api.Gate{From: 1, To: n % 2, Quota: 1})
	}
	g := gate.New(l, gates...)
	for n := range 100 {
		asks(t, g, n, 1, 0, int32(n), int32(-n), true)
	}
	var want []api.Record
	for n := 1; n < 100; n += 2 {
		want = append(want, api.Record{Seq: n / 2, Gate: n, To: 1, Value: int32(n), Round: 3, By: int32(-n)})
	}
	opens(t, g, 1, 3, want...)
	takes(t, g, 0)
	takes(t, g, 99, 99)
}

func TestP21_2_To(t *testing.T) {
	var gates []api.Gate
	var want []int
	for _, to := range append(outside(), 0, 1, 2, 15, 0) {
		gates = append(gates, api.Gate{From: 1, To: to, Need: 2, Quota: 3})
		want = append(want, to)
	}
	g := gate.New(latticeOf(t, lattice.Chain(2)), gates...)
	for n, to := range want {
		if got, ok := g.To(n); got != to || !ok {
			t.Errorf("To(%d): %d, %v; want %d", n, got, ok, to)
		}
	}
	if got, ok := g.To(len(want)); got != 0 || ok {
		t.Errorf("To(%d): %d, %v", len(want), got, ok)
	}
}

// TestP21_2_Release: in the order of the calls of Ask, over all gates that lead to the label.
func TestP21_2_Release(t *testing.T) {
	g := gate.New(latticeOf(t, lattice.Chain(4)), api.Gate{From: 3, To: 1, Quota: 9}, api.Gate{From: 3, To: 0, Quota: 9}, api.Gate{From: 2, To: 1, Quota: 9})
	opens(t, g, 1, 1)
	asks(t, g, 2, 2, 0, 20, 7, true)
	asks(t, g, 0, 3, 0, -21, 5, true)
	asks(t, g, 1, 3, 0, 22, 8, true)
	asks(t, g, 2, 0, 0, 23, -6, true)
	asks(t, g, 2, 3, 0, 99, 9, false)
	asks(t, g, 0, 0, 0, 0, 0, true)
	for n := range 3 {
		takes(t, g, n)
	}
	for _, label := range append(outside(), 2, 3) {
		opens(t, g, label, 1)
	}
	opens(t, g, 1, 10,
		api.Record{Seq: 0, Gate: 2, To: 1, Value: 20, Round: 10, By: 7}, api.Record{Seq: 1, Gate: 0, To: 1, Value: -21, Round: 10, By: 5},
		api.Record{Seq: 2, Gate: 2, To: 1, Value: 23, Round: 10, By: -6}, api.Record{Seq: 3, Gate: 0, To: 1, Round: 10})
	opens(t, g, 1, 11)
	takes(t, g, 1)
	if v, ok := g.Take(2); v != 20 || !ok {
		t.Errorf("Take(2): %d, %v", v, ok)
	}
	asks(t, g, 2, 1, 0, 24, 4, true)
	asks(t, g, 0, 1, 0, 25, 3, true)
	takes(t, g, 0, -21, 0)
	takes(t, g, 2, 23)
	opens(t, g, 0, 12, api.Record{Seq: 0, Gate: 1, To: 0, Value: 22, Round: 12, By: 8})
	opens(t, g, 1, 9, api.Record{Seq: 4, Gate: 2, To: 1, Value: 24, Round: 9, By: 4}, api.Record{Seq: 5, Gate: 0, To: 1, Value: 25, Round: 9, By: 3})
	takes(t, g, 2, 24)
	takes(t, g, 1, 22)
	takes(t, g, 0, 25)
}

// TestP21_2_AnyNumbers: values, tasks and rounds go through as they are; a To need not be a label.
func TestP21_2_AnyNumbers(t *testing.T) {
	l := latticeOf(t, lattice.Chain(1))
	for _, x := range []int32{0, 1, -1, 255, 65536, math.MaxInt32, math.MinInt32} {
		for _, to := range append(outside(), 0) {
			g := gate.New(l, api.Gate{To: to, Quota: 2})
			asks(t, g, 0, 0, 0, x, -x, true)
			opens(t, g, to, to, api.Record{To: to, Value: x, Round: to, By: -x})
			takes(t, g, 0, x)
		}
	}
}

// TestP21_3_EveryValueIsRecorded: only what has a record can be taken, with its value, and once.
func TestP21_3_EveryValueIsRecorded(t *testing.T) {
	next := scramble(213)
	g := gate.New(latticeOf(t, lattice.Chain(3)), api.Gate{From: 2, To: 0, Quota: 50}, api.Gate{From: 2, To: 1, Quota: 50}, api.Gate{From: 1, To: 0, Need: 1, Quota: 50})
	recorded := map[int][]int32{}
	for n := range 2000 {
		switch k := next(3); next(4) {
		case 0, 1:
			g.Ask(k, next(3), uint32(next(2)), int32(n), 1)
		case 2:
			for _, r := range g.Open(next(2), n) {
				recorded[r.Gate] = append(recorded[r.Gate], r.Value)
			}
		default:
			v, ok := g.Take(k)
			if ok != (len(recorded[k]) > 0) || ok && v != recorded[k][0] {
				t.Fatalf("Take(%d): %d, %v; recorded: %v", k, v, ok, recorded[k])
			}
			if ok {
				recorded[k] = recorded[k][1:]
			}
		}
	}
}

// TestP21_1_GatesNotKept: what happens later to the list is of no account, and New leaves it alone; records are new.
func TestP21_1_GatesNotKept(t *testing.T) {
	whole := []api.Gate{{From: 1, To: 0, Quota: 2}, {From: 0, To: 1, Quota: 1}, {Quota: 77}}
	before := slices.Clone(whole)
	g := gate.New(latticeOf(t, lattice.Chain(2)), whole[:2]...)
	asks(t, g, 0, 1, 0, 5, 6, true)
	if !slices.Equal(whole, before) {
		t.Errorf("the gates are now %v", whole)
	}
	clear(whole)
	asks(t, g, 0, 1, 0, 7, 8, true)
	asks(t, g, 2, 0, 0, 9, 9, false)
	first := g.Open(0, 1)
	_ = append(first[:1], api.Record{Value: 99})
	clear(first)
	takes(t, g, 0, 5, 7)
	if to, _ := g.To(1); to != 1 {
		t.Errorf("To(1): %d", to)
	}
}

// plain is the gates as the chapter tells them.
type plain struct {
	leq      [][]bool
	gates    []api.Gate
	asked    map[[2]int]int
	pending  []api.Record // without Seq and Round
	records  []api.Record
	released [][]int32
}

func (p *plain) ask(n, label int, privs uint32, v, by int32) bool {
	if n < 0 || n >= len(p.gates) || label < 0 || label >= len(p.leq) {
		return false
	}
	g := p.gates[n]
	if g.From < 0 || g.From >= len(p.leq) || !p.leq[label][g.From] || privs|g.Need != privs || p.asked[[2]int{n, label}] >= g.Quota {
		return false
	}
	p.asked[[2]int{n, label}]++
	p.pending = append(p.pending, api.Record{Gate: n, To: g.To, Value: v, By: by})
	return true
}

func (p *plain) open(label, round int) []api.Record {
	var out, rest []api.Record
	for _, r := range p.pending {
		if r.To != label {
			rest = append(rest, r)
			continue
		}
		for _, before := range p.records {
			if before.To == label {
				r.Seq++
			}
		}
		r.Round = round
		p.records = append(p.records, r)
		p.released[r.Gate] = append(p.released[r.Gate], r.Value)
		out = append(out, r)
	}
	p.pending = rest
	return out
}

func (p *plain) take(n int) (int32, bool) {
	if n < 0 || n >= len(p.gates) || len(p.released[n]) == 0 {
		return 0, false
	}
	v := p.released[n][0]
	p.released[n] = p.released[n][1:]
	return v, true
}

func TestP21_1_RandomCalls(t *testing.T) {
	next := scramble(21)
	tables := [][][]bool{lattice.Powers(0), lattice.Powers(2), lattice.Powers(3), lattice.Chain(2), lattice.Chain(5)}
	for range 300 {
		p := &plain{leq: tables[next(len(tables))], asked: map[[2]int]int{}}
		for range next(6) {
			p.gates = append(p.gates, api.Gate{From: next(9) - 1, To: next(6) - 1, Need: uint32(next(4)), Quota: next(6) - 1})
			p.released = append(p.released, nil)
		}
		g := gate.New(latticeOf(t, p.leq), p.gates...)
		for round := range 150 {
			n, label := next(7)-1, next(10)-1
			switch next(6) {
			case 0:
				opens(t, g, label, round, p.open(label, round)...)
			case 1, 2:
				want, wantOk := p.take(n)
				if got, ok := g.Take(n); got != want || ok != wantOk {
					t.Fatalf("Take(%d): %d, %v; want %d, %v", n, got, ok, want, wantOk)
				}
			default:
				privs, v, by := uint32(next(4)), int32(next(1000)-500), int32(next(1000)-500)
				asks(t, g, n, label, privs, v, by, p.ask(n, label, privs, v, by))
			}
			if got := g.Asked(n, label); got != p.asked[[2]int{n, label}] {
				t.Fatalf("Asked(%d, %d): %d, want %d", n, label, got, p.asked[[2]int{n, label}])
			}
		}
	}
}

// TestP21_1_SideBySide: gates of different New have nothing in common, in one goroutine or in several.
func TestP21_1_SideBySide(t *testing.T) {
	l := latticeOf(t, lattice.Chain(2))
	a, b := gate.New(l, api.Gate{Quota: 1}), gate.New(l, api.Gate{Quota: 1})
	asks(t, a, 0, 0, 0, 1, 1, true)
	asks(t, b, 0, 0, 0, 2, 2, true)
	opens(t, a, 0, 1, api.Record{Value: 1, Round: 1, By: 1})
	takes(t, b, 0)
	var all sync.WaitGroup
	for k := range 8 {
		all.Go(func() {
			g := gate.New(l, api.Gate{From: 1, Quota: 100})
			for n := range 100 {
				asks(t, g, 0, 1, 0, int32(n), int32(k), true)
				opens(t, g, 0, n, api.Record{Seq: n, Value: int32(n), Round: n, By: int32(k)})
			}
		})
	}
	all.Wait()
}
