package play_test

import (
	"bytes"
	"reflect"
	"slices"
	"testing"

	"confidant/api"
	"confidant/lattice"
	"confidant/machine"
	"confidant/play"
	"confidant/priv"
	"confidant/run"
	"confidant/samples"
	"confidant/script"
	"confidant/tree"
	"confidant/watch"
)

// pure is the script with every Release replaced by an instruction that does nothing; its gates and what takes from them stay.
func pure(s api.Script) api.Script {
	var m api.Image
	for _, f := range s.Image {
		f = slices.Clone(f)
		for n, i := range f {
			if i.Op == api.Release {
				f[n] = api.Instr{Op: api.Jump, Arg: int32(n + 1)}
			}
		}
		m = append(m, f)
	}
	s.Image = m
	return s
}

// TestP40_1_Noninterference: on random scripts, for every label and several secrets.
func TestP40_1_Noninterference(t *testing.T) {
	different := 0
	for seed := range uint64(400) {
		a := samples.Script(seed, false)
		if seed%2 == 0 {
			a = pure(samples.Script(seed, true))
		}
		if !watch.Pure(a.Image) {
			t.Fatalf("script %d is not pure", seed)
		}
		for label := range a.Leq {
			for k := range uint64(3) {
				b := samples.Secrets(a, label, seed+1000*k)
				b.Rounds = 3
				for _, rounds := range []int{0, 1, 20, 400} {
					if !play.Hides(a, b, label, rounds) {
						t.Fatalf("script %d: label %d sees something of secrets %d within %d rounds", seed, label, k, rounds)
					}
				}
				x, _ := run.Upto(a, 400)
				y, _ := run.Upto(b, 400)
				if !slices.Equal(x.Events, y.Events) {
					different++
				}
			}
		}
	}
	if different < 500 {
		t.Errorf("only %d runs with a difference to hide", different)
	}
}

// secretive is a script on two labels, in which a task at label 1 does something that depends on input 0, and one at label 0 looks for it.
func secretive(t *testing.T, high, low string, secret int32) api.Script {
	t.Helper()
	return api.Script{
		Leq: lattice.Chain(2), Image: code(t, high+", "+low+", func, load 0, ret"), Table: []int{0, 1, 1, 0}, Workers: 2,
		Parts: []api.Part{
			{Ring: 3, Fuel: 60, Refs: 4, Futures: 6},
			{Ring: 3, Fuel: 40, Refs: 4, Futures: 6, Inputs: []int32{secret}, Picks: []byte{byte(secret)}, Seed: uint64(secret)},
		},
		Starts: []api.Start{{Func: 0, Label: 0, Clear: 1}, {Func: 1, Label: 0, Clear: 0, Worker: 1}, {Func: 0, Label: 1, Clear: 1}},
	}
}

// TestP40_1_Channels: fuel, quotas, rings, references, futures and errors above, looked for below.
func TestP40_1_Channels(t *testing.T) {
	branch := "push 0, input 1, jumpz "
	highs := []string{
		"func, " + branch + "4, jump 3, push 1, ret", "func, " + branch + "4, fail 9, push 1, ret", "func, push 1, push 0, input 1, div, ret",
		"func, " + branch + "9, push 1, new 1, push 1, new 1, pop, pop, push 1, ret", "func, " + branch + "7, push 1, push 0, fork 2, pop, push 1, ret",
		"func, push 5, new 1, store 1, load 1, push 0, input 1, write, load 1, read, ret", "func, push 1, push 3, fork 2, push 0, input 1, jumpz 8, wait, ret, pop, push 1, ret",
		"func, " + branch + "5, push 6, emit 1, push 1, ret", "func, raise 1, " + branch + "5, jump 4, push 1, ret",
	}
	lows := []string{
		"func, push 7, emit 0, label, emit 0, jump 0", "func, push 0, push 4, fork 2, wait, emit 0, push 1, ret", "func, push 1, new 0, read, emit 0, push 65536, read, ret", "func, push 65536, wait, ret",
		"func, push 0, wait, ret", "func, raise 1, push 1, ret", "func, push 0, push 1, write, push 1, ret",
	}
	for i, high := range highs {
		for j, low := range lows {
			a := secretive(t, high, low, 0)
			if err := script.Check(a); err != api.OK {
				t.Fatalf("channel %d, %d: error %d", i, j, err)
			}
			for secret := int32(1); secret < 4; secret++ {
				b := secretive(t, high, low, secret)
				if !play.Hides(a, b, 0, 200) {
					t.Errorf("%q is seen by %q", high, low)
				}
				x, _ := run.Upto(a, 200)
				y, _ := run.Upto(b, 200)
				if slices.Equal(x.Events, y.Events) {
					t.Errorf("%q beside %q has no secret", high, low)
				}
			}
		}
	}
}

// TestP40_2_GatedRelease: what is seen of two runs is the same as long as the same has been released.
func TestP40_2_GatedRelease(t *testing.T) {
	compared, told := 0, 0
	for seed := range uint64(1500) {
		a := samples.Script(seed, true)
		l, _ := lattice.New(a.Leq)
		for label := range a.Leq {
			b := samples.Secrets(a, label, seed)
			for _, rounds := range []int{3, 15, 40, 120} {
				x, _ := run.Upto(a, rounds)
				y, _ := run.Upto(b, rounds)
				released := watch.Released(x, l, label, rounds)
				if !slices.Equal(released, watch.Released(y, l, label, rounds)) {
					told++
					continue
				}
				if !watch.Same(watch.See(a, x, label), watch.See(b, y, label)) {
					t.Fatalf("script %d: label %d sees more than what is released in %d rounds", seed, label, rounds)
				}
				if len(released) > 0 && !slices.Equal(x.Events, y.Events) {
					compared++
				}
			}
		}
	}
	if compared < 30 || told < 30 {
		t.Errorf("only %d runs with the same released, and %d with a difference", compared, told)
	}
}

// TestP40_2_Records: each one is of a task that had the privileges, and had been at a label that flows to the gate's From.
func TestP40_2_Records(t *testing.T) {
	records := 0
	for seed := range uint64(3000) {
		s := samples.Script(seed, true)
		r, _ := run.Upto(s, 300)
		privs, labels := map[int32]uint32{}, map[int32][]int{}
		made := map[int]int32{}
		for _, x := range s.Starts {
			privs[int32(x.Label*api.Base)+made[x.Label]] = x.Privs
			made[x.Label]++
		}
		for _, e := range r.Events {
			switch e.Kind {
			case api.EvFork:
				privs[e.A] = privs[e.Task]
			case api.EvTake:
				labels[e.Task] = append(labels[e.Task], e.Label)
			}
		}
		for _, x := range r.Audit {
			g := s.Gates[x.Gate]
			flows := slices.ContainsFunc(labels[x.By], func(label int) bool { return s.Leq[label][g.From] })
			if !priv.Has(privs[x.By], g.Need) || !flows || x.To != g.To {
				t.Fatalf("script %d: %v, of a task with privileges %d at labels %v; the gate is %v", seed, x, privs[x.By], labels[x.By], g)
			}
			records++
		}
	}
	if records < 100 {
		t.Errorf("only %d records", records)
	}
}

// TestP40_3_Results: of random trees, with any workers, picks, seeds and tables.
func TestP40_3_Results(t *testing.T) {
	for seed := range uint64(150) {
		leq := [][][]bool{lattice.Chain(1), lattice.Powers(2), lattice.Powers(3), lattice.Chain(4)}[seed%4]
		label := int(seed/4) % len(leq)
		x := samples.Tree(seed, leq, label)
		want, ok := tree.Value(x)
		if !ok {
			t.Fatalf("tree %d is not valid", seed)
		}
		for workers := 1; workers <= 8; workers++ {
			other := samples.Script(seed*8+uint64(workers), false).Parts[0] // for its Half, Picks and Seed
			p := api.Part{Ring: 64, Half: other.Half, Fuel: api.MaxFuel, Futures: 64, Picks: other.Picks, Seed: other.Seed}
			var rounds []int
			for n := range len(leq) + workers {
				rounds = append(rounds, (n*7+int(seed))%len(leq))
			}
			s, ok := play.Forest(leq, x, label, workers, rounds, p)
			if !ok {
				t.Fatalf("tree %d, %d workers: no forest", seed, workers)
			}
			r, err := run.Upto(s, 8000)
			top := len(leq) - 1
			if err != api.OK || r.Futures[label][0] != (api.Future{Label: top, State: api.Kept, Value: want}) {
				t.Fatalf("tree %d, %d workers: %d, %v; want %d", seed, workers, err, r.Futures[label][0], want)
			}
			if n := len(r.Futures[label]); n != tree.Tasks(x) {
				t.Fatalf("tree %d, %d workers: %d tasks, want %d", seed, workers, n, tree.Tasks(x))
			}
		}
	}
}

// TestP40_4_Isolation: a future is Broken if its own task has failed, with this code, and in no other case.
func TestP40_4_Isolation(t *testing.T) {
	for seed := range uint64(1500) {
		s := samples.Script(seed, true)
		r, _ := run.Upto(s, 300)
		want := map[int32]api.Future{}
		for _, e := range r.Events {
			switch e.Kind {
			case api.EvFail:
				want[e.Task] = api.Future{State: api.Broken, Code: api.Errno(e.A)}
			case api.EvDone:
				want[e.Task] = api.Future{State: api.Kept, Value: e.A}
			}
		}
		for by, l := range r.Futures {
			for n, f := range l {
				f.Label = 0
				if f != want[int32(by*api.Base+n)] {
					t.Fatalf("script %d: future %d of label %d is %v, want %v", seed, n, by, f, want[int32(by*api.Base+n)])
				}
			}
		}
	}
}

// TestP40_4_Waiting: those that wait for a task that fails fail with ErrChild, and those that wait for them too; others go on.
func TestP40_4_Waiting(t *testing.T) {
	s := good(t)
	s.Leq, s.Table, s.Workers = lattice.Chain(1), []int{0}, 4
	s.Parts = []api.Part{{Ring: 5, Fuel: 100, Futures: 5}}
	s.Image = code(t, "func, push 1, push 1, pop, pop, fail 9, func, load 0, wait, ret, func, push 5, ret")
	s.Starts = []api.Start{{}, {Func: 1, Arg: 0, Worker: 1}, {Func: 1, Arg: 1, Worker: 2}, {Func: 2, Worker: 3}, {Func: 1, Arg: 3, Worker: 3}}
	r, _ := run.Upto(s, 50)
	want := []api.Future{{State: api.Broken, Code: 9}, {State: api.Broken, Code: api.ErrChild}, {State: api.Broken, Code: api.ErrChild}, {State: api.Kept, Value: 5}, {State: api.Kept, Value: 5}}
	if !slices.Equal(r.Futures[0], want) {
		t.Errorf("futures %v, want %v", r.Futures[0], want)
	}
}

// TestP40_5_Progress: after Bound rounds no task is live, and no future Open.
func TestP40_5_Progress(t *testing.T) {
	for seed := range uint64(600) {
		s := samples.Script(seed, true)
		if !play.Over(s) {
			t.Fatalf("script %d is not over", seed)
		}
		m, _ := machine.New(s)
		for range play.Bound(s) {
			if m.Live() == 0 {
				break
			}
			m.Step()
		}
		if m.Live() != 0 {
			t.Fatalf("script %d: Live is %d", seed, m.Live())
		}
		for by, l := range m.Result().Futures {
			for n, f := range l {
				if f.State == api.Open {
					t.Fatalf("script %d: future %d of label %d is Open", seed, n, by)
				}
			}
		}
		for range 100 {
			if events := m.Step(); len(events) != 0 || m.Live() != 0 {
				t.Fatalf("script %d: %v behind the end", seed, events)
			}
		}
	}
}

// TestP40_5_LongTasks: those that never end by themselves, on every label of a large lattice.
func TestP40_5_LongTasks(t *testing.T) {
	for _, text := range []string{"func, jump 0", "func, label, push 1, fork 0, pop, jump 0", "func, push 0, wait, ret", "func, label, push 1, fork 0, wait, ret", "func, raise 7, label, push 1, fork 0, wait, ret"} {
		s := api.Script{Leq: lattice.Powers(3), Image: code(t, text), Table: []int{0, 1, 2, 3, 4, 5, 6, 7, 7, 0}, Workers: 3}
		for label := range 8 {
			s.Parts = append(s.Parts, api.Part{Ring: 4, Half: label%2 == 0, Fuel: 100 * label, Futures: 10})
			s.Starts = append(s.Starts, api.Start{Label: label, Clear: 7, Worker: label % 3}, api.Start{Label: label, Clear: 7})
		}
		if !play.Over(s) {
			t.Errorf("%q is not over", text)
		}
		m, _ := machine.New(s)
		for range play.Bound(s) {
			m.Step()
		}
		for _, l := range m.Result().Futures {
			if slices.ContainsFunc(l, func(f api.Future) bool { return f.State == api.Open }) {
				t.Errorf("%q: %v", text, l)
			}
		}
	}
}

// TestP40_6_Totality: whatever bytes there are, an error of the tables, or the result of exactly the script's rounds.
func TestP40_6_Totality(t *testing.T) {
	errors := []api.Errno{api.ErrBytes, api.ErrLattice, api.ErrCode, api.ErrLong, api.ErrGate, api.ErrTable, api.ErrPart, api.ErrStart}
	for seed := range uint64(200) {
		b, _ := script.Put(samples.Script(seed, true))
		for n := range b {
			other := bytes.Clone(b)
			other[n] = byte(seed*31) + byte(n)*7
			r, err := run.Run(other)
			if err != api.OK {
				if !slices.Contains(errors, err) || !reflect.DeepEqual(r, api.Result{}) {
					t.Fatalf("Run of script %d with another byte %d: %v, %d", seed, n, r, err)
				}
				continue
			}
			s, _ := script.Read(other)
			m, _ := machine.New(s)
			for range s.Rounds {
				m.Step()
			}
			if !run.Same(r, m.Result()) {
				t.Fatalf("Run of script %d with another byte %d: %v", seed, n, r)
			}
		}
	}
}

// TestP40_7_RoundTrip: of scripts, and of all bytes that are accepted.
func TestP40_7_RoundTrip(t *testing.T) {
	for seed := range uint64(50) {
		s := samples.Script(seed, true)
		b, err := script.Put(s)
		back, readErr := script.Read(b)
		if err != api.OK || readErr != api.OK || !script.Same(back, s) {
			t.Fatalf("script %d: %d, %d, %v; want %v", seed, err, readErr, back, s)
		}
		for n := range b {
			for _, c := range []byte{0, 1, b[n] + 1, b[n] ^ 0x80} {
				other := bytes.Clone(b)
				other[n] = c
				s, err := script.Read(other)
				if err != api.OK {
					continue
				}
				if again, _ := script.Put(s); !bytes.Equal(again, other) {
					t.Fatalf("script %d with byte %d at %d: %v", seed, c, n, again)
				}
			}
		}
	}
}

// TestP40_8_Determinism: the same result each time, in order.
func TestP40_8_Determinism(t *testing.T) {
	for seed := range uint64(1500) {
		s := samples.Script(seed, true)
		a, err := run.Script(s)
		b, _ := run.Script(samples.Script(seed, true))
		if err != api.OK || !run.Same(a, b) || !play.Orderly(s, a) {
			t.Fatalf("script %d: %v; then %v", seed, a, b)
		}
		long, _ := run.Upto(s, 500)
		if !play.Orderly(s, long) {
			t.Fatalf("script %d: not orderly: %v", seed, long.Events)
		}
	}
}

// TestP30_4_Together: what the promises state by these functions holds of the same scripts, up to the end of all tasks.
func TestP30_4_Together(t *testing.T) {
	for seed := range uint64(100) {
		s := samples.Script(seed, false)
		n := min(play.Bound(s), 2000)
		r, err := run.Upto(s, n)
		if err != api.OK || !play.Over(s) || !play.Orderly(s, r) || !play.Hides(s, samples.Secrets(s, 0, seed), 0, n) {
			t.Fatalf("script %d: %d, Over %v, Orderly %v", seed, err, play.Over(s), play.Orderly(s, r))
		}
		if len(r.Events) > 1 {
			slices.Reverse(r.Events)
			if r.Events[0].Round > r.Events[len(r.Events)-1].Round && play.Orderly(s, r) {
				t.Fatalf("script %d is orderly backwards", seed)
			}
		}
	}
}
