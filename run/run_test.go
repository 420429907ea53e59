package run_test

import (
	"bytes"
	"math"
	"reflect"
	"slices"
	"sync"
	"testing"

	"confidant/api"
	"confidant/lattice"
	"confidant/machine"
	"confidant/pack"
	"confidant/run"
	"confidant/samples"
	"confidant/script"
)

// scramble yields numbers: the same ones in every run.
func scramble(seed uint64) func(n int) int {
	return func(n int) int {
		seed = seed*6364136223846793005 + 1442695040888963407
		return int(seed>>33) % n
	}
}

// endless is a script whose one task takes 1 of the fuel in each round.
func endless(rounds int) api.Script {
	return api.Script{
		Leq: lattice.Chain(1), Image: api.Image{{{Op: api.Jump}}}, Table: []int{0}, Parts: []api.Part{{Ring: 1, Fuel: api.MaxFuel, Futures: 1}}, Workers: 1,
		Starts: []api.Start{{}}, Rounds: rounds,
	}
}

// broken are scripts with an error, by the error.
func broken() map[api.Errno]api.Script {
	out := map[api.Errno]api.Script{}
	add := func(err api.Errno, change func(*api.Script)) {
		s := endless(5)
		change(&s)
		out[err] = s
	}
	add(api.ErrLattice, func(s *api.Script) { s.Leq = [][]bool{{false}} })
	add(api.ErrCode, func(s *api.Script) { s.Image = api.Image{{{Op: api.Ret}}} })
	add(api.ErrLong, func(s *api.Script) { s.Image = make(api.Image, 65) })
	add(api.ErrGate, func(s *api.Script) { s.Gates = []api.Gate{{From: 1}} })
	add(api.ErrTable, func(s *api.Script) { s.Table = []int{1} })
	add(api.ErrPart, func(s *api.Script) { s.Workers = 0 })
	add(api.ErrStart, func(s *api.Script) { s.Starts[0].Func = 1 })
	return out
}

// performed is the number of rounds of endless that a result is of.
func performed(t *testing.T, r api.Result, err api.Errno) int {
	t.Helper()
	if err != api.OK || len(r.Fuel) != 1 {
		t.Fatalf("%v, %d", r, err)
	}
	return api.MaxFuel - r.Fuel[0]
}

func TestP27_1_Rounds(t *testing.T) {
	for given, want := range map[int]int{math.MinInt: 0, -1 << 32: 0, -1: 0, 0: 0, 1: 1, 2: 2, 500: 500, 65535: 65535, 65536: 65536, 65537: 65536, 1 << 32: 65536, 1<<32 + 1: 65536, math.MaxInt: 65536} {
		r, err := run.Upto(endless(3), given)
		if got := performed(t, r, err); got != want {
			t.Errorf("Upto %d: %d rounds, want %d", given, got, want)
		}
	}
	for _, n := range []int{0, 1, 2, 500, 65536} {
		r, err := run.Script(endless(n))
		if got := performed(t, r, err); got != n {
			t.Errorf("Script with %d rounds: %d", n, got)
		}
		b, _ := script.Put(endless(n))
		r, err = run.Run(b)
		if got := performed(t, r, err); got != n {
			t.Errorf("Run with %d rounds: %d", n, got)
		}
	}
}

func TestP27_1_Errors(t *testing.T) {
	none := func(r api.Result, err, want api.Errno) {
		t.Helper()
		if !reflect.DeepEqual(r, api.Result{}) || err != want {
			t.Errorf("%v, %d; want error %d", r, err, want)
		}
	}
	for want, s := range broken() {
		r, err := run.Script(s)
		none(r, err, want)
		for _, n := range []int{-1, 0, 1, 100000} {
			r, err = run.Upto(s, n)
			none(r, err, want)
		}
	}
	s := endless(65537)
	r, err := run.Script(s)
	none(r, err, api.ErrStart)
	r, err = run.Upto(s, 5)
	none(r, err, api.ErrStart)
	r, err = run.Script(api.Script{})
	none(r, err, api.ErrLattice)
	for _, b := range [][]byte{nil, {}, {0x80}, {1}, {1, 1}, pack.Put(1 << 63), make([]byte, 3), bytes.Repeat([]byte{1}, 100), bytes.Repeat([]byte{0xff}, 100)} {
		r, err = run.Run(b)
		none(r, err, api.ErrBytes)
	}
	b, _ := script.Put(endless(5))
	for n := range b {
		r, err = run.Run(b[:n])
		none(r, err, api.ErrBytes)
	}
	r, err = run.Run(append(b, 0))
	none(r, err, api.ErrBytes)
	for at, c := range map[int]struct {
		n   byte
		err api.Errno
	}{1: {0, api.ErrLattice}, 4: {api.Ret, api.ErrBytes}, 8: {1, api.ErrTable}, 9: {0, api.ErrPart}} {
		other := bytes.Clone(b)
		other[at] = c.n
		r, err = run.Run(other)
		none(r, err, c.err)
	}
}

// TestP27_1_Result: all events in order, the log, the futures and the fuel, as the machine has them.
func TestP27_1_Result(t *testing.T) {
	for seed := range uint64(600) {
		s := samples.Script(seed, true)
		for _, n := range []int{0, 1, 2, 50, s.Rounds} {
			m, _ := machine.New(s)
			var events []api.Event
			for range n {
				events = append(events, m.Step()...)
			}
			want := m.Result()
			got, err := run.Upto(s, n)
			if err != api.OK || !slices.Equal(got.Events, events) || !reflect.DeepEqual(got, want) || !run.Same(got, want) {
				t.Fatalf("script %d, %d rounds: %v, %d; want %v", seed, n, got, err, want)
			}
		}
		want, _ := run.Upto(s, s.Rounds)
		got, err := run.Script(s)
		if err != api.OK || !run.Same(got, want) {
			t.Fatalf("script %d: %v, %d; want %v", seed, got, err, want)
		}
		b, _ := script.Put(s)
		before := bytes.Clone(b)
		got, err = run.Run(b)
		if err != api.OK || !run.Same(got, want) || !bytes.Equal(b, before) || !script.Same(s, samples.Script(seed, true)) {
			t.Fatalf("script %d as bytes: %v, %d; want %v", seed, got, err, want)
		}
	}
}

// TestP27_1_Longer: more rounds add events at the end, and change none.
func TestP27_1_Longer(t *testing.T) {
	for seed := range uint64(200) {
		s := samples.Script(seed, true)
		short, _ := run.Upto(s, 30)
		long, _ := run.Upto(s, 60)
		if !slices.Equal(short.Events, long.Events[:len(short.Events)]) || !slices.Equal(short.Audit, long.Audit[:len(short.Audit)]) {
			t.Fatalf("script %d: %v; %v", seed, short, long)
		}
	}
}

// some is a result with something everywhere; all of it is new.
func some() api.Result {
	return api.Result{
		Events:  []api.Event{{Round: 1, Label: 2, Kind: 3, Worker: 4, Task: 5, A: 6, B: 7}, {Round: 2}},
		Audit:   []api.Record{{Seq: 1, Gate: 2, To: 3, Value: 4, Round: 5, By: 6}, {Seq: 2}},
		Futures: [][]api.Future{{{Label: 1, State: 2, Value: 3, Code: 4}, {Label: 2}}, nil, {{Label: 3}}},
		Fuel:    []int{1, 2, 3},
	}
}

func TestP27_1_Same(t *testing.T) {
	if !run.Same(some(), some()) || !run.Same(api.Result{}, api.Result{}) || run.Same(some(), api.Result{}) || run.Same(api.Result{}, some()) {
		t.Error("Same of some and empty results")
	}
	empty := api.Result{Events: []api.Event{}, Audit: []api.Record{}, Futures: [][]api.Future{}, Fuel: []int{}}
	if !run.Same(empty, api.Result{}) || !run.Same(api.Result{}, empty) || !run.Same(api.Result{Futures: [][]api.Future{nil}}, api.Result{Futures: [][]api.Future{{}}}) {
		t.Error("Same of nil and empty lists: false")
	}
	for n, change := range []func(r *api.Result){
		func(r *api.Result) { r.Events[0].Round++ }, func(r *api.Result) { r.Events[0].Label++ }, func(r *api.Result) { r.Events[0].Kind++ }, func(r *api.Result) { r.Events[1].Worker++ }, func(r *api.Result) { r.Events[1].Task++ }, func(r *api.Result) { r.Events[1].A++ }, func(r *api.Result) { r.Events[1].B++ },
		func(r *api.Result) { r.Events = r.Events[:1] }, func(r *api.Result) { r.Events = append(r.Events, api.Event{}) }, func(r *api.Result) { slices.Reverse(r.Events) },
		func(r *api.Result) { r.Audit[1].Seq++ }, func(r *api.Result) { r.Audit[1].Gate++ }, func(r *api.Result) { r.Audit[0].To++ }, func(r *api.Result) { r.Audit[0].Value++ }, func(r *api.Result) { r.Audit[0].Round++ }, func(r *api.Result) { r.Audit[0].By++ },
		func(r *api.Result) { r.Audit = r.Audit[1:] }, func(r *api.Result) { r.Audit = nil }, func(r *api.Result) { slices.Reverse(r.Audit) },
		func(r *api.Result) { r.Futures[0][0].Label++ }, func(r *api.Result) { r.Futures[0][1].State++ }, func(r *api.Result) { r.Futures[2][0].Value++ }, func(r *api.Result) { r.Futures[2][0].Code++ },
		func(r *api.Result) { r.Futures[0] = r.Futures[0][:1] }, func(r *api.Result) { r.Futures[1] = []api.Future{{}} }, func(r *api.Result) { r.Futures = r.Futures[:2] }, func(r *api.Result) { r.Futures = append(r.Futures, nil) },
		func(r *api.Result) { r.Fuel[2]++ }, func(r *api.Result) { r.Fuel = r.Fuel[:2] }, func(r *api.Result) { r.Fuel = append(r.Fuel, 0) },
	} {
		other := some()
		change(&other)
		if run.Same(some(), other) || run.Same(other, some()) || !run.Same(other, other) {
			t.Errorf("Same with change %d", n)
		}
	}
}

// TestP27_2_Fixed: the rounds are performed although nothing happens any more.
func TestP27_2_Fixed(t *testing.T) {
	s := endless(200)
	s.Parts[0].Fuel = 3
	r, err := run.Script(s)
	want := []api.Event{{Kind: api.EvTake}, {Round: 3, Kind: api.EvFail, A: int32(api.ErrFuel)}}
	if err != api.OK || !slices.Equal(r.Events, want) || r.Fuel[0] != 0 || r.Futures[0][0] != (api.Future{State: api.Broken, Code: api.ErrFuel}) {
		t.Errorf("%v, %d", r, err)
	}
}

// TestP40_6_Totality: whatever the bytes are, there is an error of the tables, or a result.
func TestP40_6_Totality(t *testing.T) {
	next := scramble(406)
	errors := []api.Errno{api.ErrBytes, api.ErrLattice, api.ErrCode, api.ErrLong, api.ErrGate, api.ErrTable, api.ErrPart, api.ErrStart}
	try := func(b []byte) {
		t.Helper()
		r, err := run.Run(b)
		if err != api.OK {
			if !slices.Contains(errors, err) || !reflect.DeepEqual(r, api.Result{}) {
				t.Fatalf("Run(%v): %v, %d", b, r, err)
			}
			return
		}
		s, readErr := script.Read(b)
		want, _ := run.Script(s)
		if readErr != api.OK || !run.Same(r, want) {
			t.Fatalf("Run(%v): %v; Read: %d", b, r, readErr)
		}
	}
	for range 20000 {
		b := make([]byte, next(60))
		for n := range b {
			b[n] = byte(next([]int{2, 4, 30, 256}[next(4)]))
		}
		try(b)
	}
	for seed := range uint64(500) {
		b, _ := script.Put(samples.Script(seed, true))
		for range 10 {
			other := bytes.Clone(b)
			for range 1 + next(3) {
				other[next(len(b))] = byte(next([]int{2, 4, 256}[next(3)]))
			}
			try(other)
		}
	}
}

// TestP27_1_NothingShared: no two answers have memory in common.
func TestP27_1_NothingShared(t *testing.T) {
	s := samples.Script(11, true)
	want, _ := run.Upto(s, 80)
	other, _ := run.Upto(s, 80)
	clear(other.Events)
	clear(other.Audit)
	clear(other.Fuel)
	for _, l := range other.Futures {
		clear(l)
	}
	if again, _ := run.Upto(s, 80); !run.Same(again, want) {
		t.Errorf("another result: %v, want %v", again, want)
	}
}

// TestP40_8_SideBySide: the same result each time, in one goroutine or in several.
func TestP40_8_SideBySide(t *testing.T) {
	for seed := range uint64(50) {
		s := samples.Script(seed, true)
		want, _ := run.Upto(s, 100)
		var all sync.WaitGroup
		for range 8 {
			all.Go(func() {
				if got, err := run.Upto(s, 100); err != api.OK || !run.Same(got, want) {
					t.Errorf("script %d: %v, %d", seed, got, err)
				}
			})
		}
		all.Wait()
	}
}
