package watch_test

import (
	"math"
	"reflect"
	"slices"
	"sync"
	"testing"

	"confidant/api"
	"confidant/lattice"
	"confidant/run"
	"confidant/samples"
	"confidant/script"
	"confidant/watch"
)

// outside are numbers of no label of any lattice.
func outside() []int {
	return []int{math.MinInt, math.MinInt32, -1 << 32, -2, -1, 16, 17, 255, 65536, math.MaxInt32, 1 << 32, 1<<32 + 1, math.MaxInt}
}

// good is a script on four labels, 0 below 1 and 2, these below 3; all of it is new.
func good() api.Script {
	s := api.Script{
		Leq: lattice.Powers(2), Image: api.Image{{{Op: api.Fail, Arg: 5}}, {{Op: api.Push, Arg: 4}, {Op: api.Ret}}}, Gates: []api.Gate{{From: 3, To: 1, Need: 2, Quota: 5}, {From: 1}},
		Table: []int{0, 1, 2, 3, 3}, Workers: 3, Starts: []api.Start{{Label: 1, Clear: 3, Arg: 4, Privs: 6, Worker: 1}, {Func: 1, Label: 2, Clear: 2}}, Rounds: 10,
	}
	for n := range 4 {
		s.Parts = append(s.Parts, api.Part{Ring: n + 3, Half: n > 1, Fuel: n + 50, Refs: n + 5, Futures: n + 6, Inputs: []int32{int32(n), 7}, Picks: []byte{byte(n), 8, 9}, Seed: uint64(n + 10)})
	}
	return s
}

// bad is a script with an error.
func bad() api.Script {
	s := good()
	s.Workers = 0
	return s
}

// someResult has events and records of all labels and of some that do not exist; it need not be that of any script.
func someResult() api.Result {
	r := api.Result{Futures: [][]api.Future{{{Label: 1}}}, Fuel: []int{5}}
	for n := range 40 {
		label := n*7%9 - 2
		r.Events = append(r.Events, api.Event{Round: 100 - n, Label: label, Kind: n % 13, Worker: n, Task: int32(n), A: int32(-n), B: int32(n * 2)})
		r.Audit = append(r.Audit, api.Record{Seq: n, Gate: n + 1, To: n*5%8 - 2, Value: int32(-n), Round: n*11%50 - 5, By: int32(n + 1)})
	}
	return r
}

// sees asks for what is seen of someResult by an observer to whom these labels flow.
func sees(t *testing.T, s api.Script, label int, below ...int) {
	t.Helper()
	r := someResult()
	var want api.Seen
	for _, e := range r.Events {
		if slices.Contains(below, e.Label) {
			want.Events = append(want.Events, e)
		}
	}
	for _, x := range r.Audit {
		if slices.Contains(below, x.To) {
			x.By = 0
			want.Audit = append(want.Audit, x)
		}
	}
	got := watch.See(s, r, label)
	if !slices.Equal(got.Events, want.Events) || !slices.Equal(got.Audit, want.Audit) {
		t.Errorf("See at %d: %v, want %v", label, got, want)
	}
	if !reflect.DeepEqual(r, someResult()) {
		t.Errorf("the result is now %v", r)
	}
	clear(got.Events)
	clear(got.Audit)
	if !reflect.DeepEqual(r, someResult()) {
		t.Error("See gives away memory of the result")
	}
}

func TestP28_1_See(t *testing.T) {
	s := good()
	sees(t, s, 0, 0)
	sees(t, s, 1, 0, 1)
	sees(t, s, 2, 0, 2)
	sees(t, s, 3, 0, 1, 2, 3)
	for _, label := range append(outside(), 4) {
		sees(t, s, label)
	}
	if !script.Same(s, good()) {
		t.Errorf("the script is now %v", s)
	}
	chain := good()
	chain.Leq = lattice.Chain(4)
	sees(t, chain, 2, 0, 1, 2)
	// labels need not be in the order of their numbers
	chain.Leq = [][]bool{{true, false, false, false}, {true, true, false, false}, {true, true, true, false}, {true, true, true, true}}
	chain.Starts, chain.Gates = nil, nil
	sees(t, chain, 0, 0, 1, 2, 3)
	sees(t, chain, 2, 2, 3)
	sees(t, chain, 3, 3)
}

func TestP28_1_SeeNothing(t *testing.T) {
	for _, s := range []api.Script{bad(), {}} {
		for label := range 4 {
			if got := watch.See(s, someResult(), label); len(got.Events) != 0 || len(got.Audit) != 0 {
				t.Errorf("See of a script with an error: %v", got)
			}
		}
	}
	if got := watch.See(good(), api.Result{}, 3); len(got.Events) != 0 || len(got.Audit) != 0 {
		t.Errorf("See of nothing: %v", got)
	}
}

func TestP28_1_Same(t *testing.T) {
	some := func() api.Seen {
		r := someResult()
		return api.Seen{Events: r.Events, Audit: r.Audit}
	}
	if !watch.Same(some(), some()) || !watch.Same(api.Seen{}, api.Seen{Events: []api.Event{}, Audit: []api.Record{}}) || !watch.Same(api.Seen{Events: []api.Event{}, Audit: []api.Record{}}, api.Seen{}) || watch.Same(some(), api.Seen{}) || watch.Same(api.Seen{}, some()) {
		t.Error("Same of some and of nothing")
	}
	for n, change := range []func(x *api.Seen){
		func(x *api.Seen) { x.Events[3].Round++ }, func(x *api.Seen) { x.Events[0].Label++ }, func(x *api.Seen) { x.Events[39].Kind++ }, func(x *api.Seen) { x.Events[5].Worker++ }, func(x *api.Seen) { x.Events[5].Task++ }, func(x *api.Seen) { x.Events[5].A++ }, func(x *api.Seen) { x.Events[5].B++ },
		func(x *api.Seen) { x.Events = x.Events[1:] }, func(x *api.Seen) { x.Events = append(x.Events, api.Event{}) }, func(x *api.Seen) { x.Events = nil }, func(x *api.Seen) { slices.Reverse(x.Events) },
		func(x *api.Seen) { x.Audit[0].Seq++ }, func(x *api.Seen) { x.Audit[39].Gate++ }, func(x *api.Seen) { x.Audit[5].To++ }, func(x *api.Seen) { x.Audit[5].Value++ }, func(x *api.Seen) { x.Audit[5].Round++ }, func(x *api.Seen) { x.Audit[5].By++ },
		func(x *api.Seen) { x.Audit = x.Audit[:39] }, func(x *api.Seen) { x.Audit = append(x.Audit, api.Record{}) }, func(x *api.Seen) { x.Audit = nil }, func(x *api.Seen) { slices.Reverse(x.Audit) },
	} {
		other := some()
		change(&other)
		if watch.Same(some(), other) || watch.Same(other, some()) || !watch.Same(other, other) {
			t.Errorf("Same with change %d", n)
		}
	}
}

func TestP28_1_Pure(t *testing.T) {
	add, release := api.Instr{Op: api.Add}, api.Instr{Op: api.Release, Arg: 3}
	for _, m := range []api.Image{nil, {}, {nil}, {{add}, nil, {add, add}}, {{{}}}, {{{Op: -1}, {Op: math.MaxInt}, {Op: math.MinInt}}}} {
		if !watch.Pure(m) {
			t.Errorf("Pure(%v): false", m)
		}
	}
	for op := -3; op < 40; op++ {
		if got := watch.Pure(api.Image{{add, {Op: op, Arg: 1}}}); got != (op != api.Release) {
			t.Errorf("Pure with op %d: %v", op, got)
		}
	}
	for _, m := range []api.Image{{{release}}, {{add, add, release}}, {{release, add}}, {{add}, {add}, {add, release, add}}, {nil, {release}}, {{release}, {add}}, {{{Op: api.Release, Arg: -9}}}} {
		if watch.Pure(m) {
			t.Errorf("Pure(%v): true", m)
		}
	}
}

func TestP28_1_Released(t *testing.T) {
	l, _ := lattice.New(lattice.Powers(2))
	below := map[int][]int{0: {0}, 1: {0, 1}, 2: {0, 2}, 3: {0, 1, 2, 3}}
	for _, label := range append(outside(), 0, 1, 2, 3, 4) {
		for _, rounds := range []int{math.MinInt, -6, -5, -4, -1, 0, 1, 2, 10, 11, 12, 43, 44, 45, 1000, math.MaxInt} {
			r := someResult()
			var want []api.Record
			for _, x := range r.Audit {
				if slices.Contains(below[label], x.To) && x.Round < rounds {
					x.Seq, x.By = 0, 0
					want = append(want, x)
				}
			}
			got := watch.Released(r, l, label, rounds)
			if !slices.Equal(got, want) {
				t.Errorf("Released at %d, %d rounds: %v, want %v", label, rounds, got, want)
			}
			clear(got)
			if !reflect.DeepEqual(r, someResult()) {
				t.Fatalf("the result is now %v", r)
			}
			if got := watch.Released(r, nil, label, rounds); got != nil {
				t.Errorf("Released without a lattice: %v", got)
			}
		}
	}
}

// alike asks for Alike in both directions.
func alike(t *testing.T, a, b api.Script, label int, want bool) {
	t.Helper()
	if watch.Alike(a, b, label) != want || watch.Alike(b, a, label) != want {
		t.Errorf("Alike at %d: %v, %v; want %v", label, watch.Alike(a, b, label), watch.Alike(b, a, label), want)
	}
}

func TestP28_2_Errors(t *testing.T) {
	for _, label := range []int{-1, 0, 3, 4} {
		alike(t, good(), bad(), label, false)
		alike(t, bad(), bad(), label, false)
		alike(t, api.Script{}, api.Script{}, label, false)
		alike(t, good(), api.Script{}, label, false)
	}
}

// TestP28_2_Secrets: of each label, for each observer.
func TestP28_2_Secrets(t *testing.T) {
	leq := lattice.Powers(2)
	for label := range 4 {
		alike(t, good(), good(), label, true)
		for other := range 4 {
			for _, change := range []func(p *api.Part){
				func(p *api.Part) { p.Inputs[1]++ }, func(p *api.Part) { p.Inputs = nil }, func(p *api.Part) { p.Inputs = append(p.Inputs, 1) }, func(p *api.Part) { p.Picks[2]++ }, func(p *api.Part) { p.Picks = nil }, func(p *api.Part) { p.Seed++ },
				func(p *api.Part) { p.Inputs, p.Picks, p.Seed = make([]int32, 64), make([]byte, 1024), math.MaxUint64 },
			} {
				s := good()
				change(&s.Parts[other])
				alike(t, good(), s, label, !leq[other][label])
				s.Rounds = 77
				alike(t, good(), s, label, !leq[other][label])
				want := good()
				change(&want.Parts[other])
				want.Rounds = 77
				if !script.Same(s, want) {
					t.Errorf("the script is now %v", s)
				}
			}
		}
	}
}

// TestP28_2_NoSuchLabel: no label flows to it, so all of these may differ, but nothing else.
func TestP28_2_NoSuchLabel(t *testing.T) {
	for _, label := range append(outside(), 4) {
		alike(t, good(), good(), label, true)
		s := good()
		for n := range s.Parts {
			s.Parts[n].Inputs, s.Parts[n].Picks, s.Parts[n].Seed = nil, nil, 0
		}
		alike(t, good(), s, label, true)
		s.Parts[0].Fuel++
		alike(t, good(), s, label, false)
	}
}

// TestP28_2_Rest: everything else is equal, except for Rounds.
func TestP28_2_Rest(t *testing.T) {
	for n, change := range []func(s *api.Script){
		func(s *api.Script) { s.Leq = lattice.Chain(4) }, func(s *api.Script) {
			s.Leq, s.Parts, s.Table, s.Gates = lattice.Powers(3), slices.Repeat(s.Parts, 2), []int{0}, nil
		},
		func(s *api.Script) { s.Image[0][0].Arg++ }, func(s *api.Script) { s.Image = append(s.Image, s.Image[0]) },
		func(s *api.Script) { s.Gates[0].From = 2 }, func(s *api.Script) { s.Gates[0].To = 2 }, func(s *api.Script) { s.Gates[0].Need++ }, func(s *api.Script) { s.Gates[0].Quota++ }, func(s *api.Script) { s.Gates = nil },
		func(s *api.Script) { s.Table[4] = 2 }, func(s *api.Script) { s.Table = append(s.Table, 3) }, func(s *api.Script) { s.Workers++ },
		func(s *api.Script) { s.Parts[3].Ring++ }, func(s *api.Script) { s.Parts[3].Half = false }, func(s *api.Script) { s.Parts[2].Fuel++ }, func(s *api.Script) { s.Parts[1].Refs++ }, func(s *api.Script) { s.Parts[3].Futures++ },
		func(s *api.Script) { s.Starts[0].Func++ }, func(s *api.Script) { s.Starts[1].Arg++ }, func(s *api.Script) { s.Starts[1].Label, s.Starts[1].Clear = 3, 3 }, func(s *api.Script) { s.Starts[0].Clear = 1 }, func(s *api.Script) { s.Starts[1].Privs++ }, func(s *api.Script) { s.Starts[1].Worker++ }, func(s *api.Script) { s.Starts = s.Starts[:1] },
	} {
		s := good()
		change(&s)
		if err := script.Check(s); err != api.OK {
			t.Fatalf("change %d: error %d", n, err)
		}
		for label := -1; label < 5; label++ {
			if watch.Alike(good(), s, label) || watch.Alike(s, good(), label) || !watch.Alike(s, s, label) {
				t.Errorf("Alike with change %d at label %d", n, label)
			}
		}
	}
	for _, rounds := range []int{0, 1, 11, 65536} {
		s := good()
		s.Rounds = rounds
		alike(t, good(), s, 3, true)
	}
	s := good()
	s.Rounds = 65537
	alike(t, good(), s, 3, false)
}

// TestP28_2_ArgumentsStay: neither script changes, and nothing of them is given away.
func TestP28_2_ArgumentsStay(t *testing.T) {
	a, b := good(), samples.Secrets(good(), 1, 5)
	want := samples.Secrets(good(), 1, 5)
	for label := range 4 {
		watch.Alike(a, b, label)
		watch.See(a, someResult(), label)
	}
	if !script.Same(a, good()) || !script.Same(b, want) {
		t.Errorf("the scripts are now %v, %v", a, b)
	}
}

// TestP28_3_Runs: what is seen of two alike runs of pure code is the same, and of others it is what Released tells apart.
func TestP28_3_Runs(t *testing.T) {
	different := 0
	for seed := range uint64(500) {
		a := samples.Script(seed, false)
		if !watch.Pure(a.Image) {
			t.Fatalf("script %d is not pure", seed)
		}
		for label := range a.Leq {
			b := samples.Secrets(a, label, seed)
			alike(t, a, b, label, true)
			x, _ := run.Upto(a, 150)
			y, _ := run.Upto(b, 150)
			if !watch.Same(watch.See(a, x, label), watch.See(b, y, label)) {
				t.Fatalf("script %d: label %d sees a difference", seed, label)
			}
			if !run.Same(x, y) {
				different++
			}
		}
	}
	if different < 100 {
		t.Errorf("only %d runs with a difference to hide", different)
	}
}

// TestP28_1_SideBySide: the answers are the same in several goroutines.
func TestP28_1_SideBySide(t *testing.T) {
	s := good()
	r := someResult()
	want := watch.See(s, r, 1)
	var all sync.WaitGroup
	for range 8 {
		all.Go(func() {
			for range 20 {
				if !watch.Same(watch.See(s, r, 1), want) || !watch.Alike(s, s, 1) {
					t.Error("another answer")
				}
			}
		})
	}
	all.Wait()
}
