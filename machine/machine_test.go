package machine_test

import (
	"math"
	"reflect"
	"slices"
	"strings"
	"sync"

	"testing"

	"confidant/api"
	"confidant/image"
	"confidant/lattice"
	"confidant/machine"
	"confidant/samples"
	"confidant/script"
	"confidant/trace"
)

// code is the image of some text, in which a comma ends a line too.
func code(t *testing.T, text string) api.Image {
	t.Helper()
	m, line, err := image.Parse(strings.ReplaceAll(text, ", ", "\n"))
	if err != api.OK {
		t.Fatalf("line %d of %q: %d", line, text, err)
	}
	return m
}

// diamond is a script on four labels: 0 flows to 1 and 2, which flow to 3. Round n belongs to label n modulo 4. One task begins at label 0 and may go up to 3.
func diamond(t *testing.T, text string) api.Script {
	t.Helper()
	part := api.Part{Ring: 2, Fuel: 50, Refs: 2, Futures: 3, Inputs: []int32{70, -71}, Picks: make([]byte, 40)}
	return api.Script{
		Leq: lattice.Powers(2), Image: code(t, text), Table: []int{0, 1, 2, 3}, Parts: slices.Repeat([]api.Part{part}, 4), Workers: 1,
		Starts: []api.Start{{Arg: 9, Clear: 3, Privs: 5}},
	}
}

// single is a script on one label, with two workers, of which the first one has the task.
func single(t *testing.T, text string) api.Script {
	t.Helper()
	s := diamond(t, text)
	s.Leq, s.Table, s.Parts, s.Workers = lattice.Chain(1), []int{0}, s.Parts[:1], 2
	s.Starts[0].Clear = 0
	return s
}

func start(t *testing.T, s api.Script) *machine.Machine {
	t.Helper()
	m, err := machine.New(s)
	if err != api.OK {
		t.Fatalf("New: %d", err)
	}
	return m
}

// runs asks for all events of so many rounds, told by trace.Text, and returns the machine behind them.
func runs(t *testing.T, s api.Script, rounds int, want ...string) *machine.Machine {
	t.Helper()
	m := start(t, s)
	var all []api.Event
	for n := range rounds {
		if m.Round() != n {
			t.Errorf("Round: %d, want %d", m.Round(), n)
		}
		for _, e := range m.Step() {
			if e.Round != n {
				t.Errorf("round %d has an event of round %d", n, e.Round)
			}
			all = append(all, e)
		}
	}
	var got []string
	for _, e := range all {
		got = append(got, trace.Text(e))
	}
	if !slices.Equal(got, want) {
		t.Errorf("events:\n%s\nwant:\n%s", strings.Join(got, "\n"), strings.Join(want, "\n"))
	}
	if r := m.Result(); !slices.Equal(r.Events, all) {
		t.Errorf("Result has the events %v", r.Events)
	}
	return m
}

// becomes asks for the state of a future.
func becomes(t *testing.T, m *machine.Machine, id int32, want api.Future) {
	t.Helper()
	if got, ok := m.Future(id); got != want || !ok {
		t.Errorf("Future(%d): %v, %v; want %v", id, got, ok, want)
	}
}

func kept(label int, v int32) api.Future {
	return api.Future{Label: label, State: api.Kept, Value: v}
}

func broken(label int, code api.Errno) api.Future {
	return api.Future{Label: label, State: api.Broken, Code: code}
}

// TestP26_1_Errors: those of script.Check, and no machine.
func TestP26_1_Errors(t *testing.T) {
	for _, change := range []func(*api.Script){
		func(s *api.Script) { *s = api.Script{} }, func(s *api.Script) { s.Leq = nil }, func(s *api.Script) { s.Image = make(api.Image, 65) }, func(s *api.Script) { s.Image = nil }, func(s *api.Script) { s.Image[0][0].Op = 99 },
		func(s *api.Script) { s.Gates = make([]api.Gate, 17) }, func(s *api.Script) { s.Table = nil }, func(s *api.Script) { s.Parts = s.Parts[1:] }, func(s *api.Script) { s.Workers = 0 }, func(s *api.Script) { s.Workers = 9 },
		func(s *api.Script) { s.Starts[0].Func = 1 }, func(s *api.Script) { s.Starts = slices.Repeat(s.Starts, 3) }, func(s *api.Script) { s.Rounds = -1 }, func(s *api.Script) { s.Rounds = 65537 },
	} {
		s := diamond(t, "func, push 1, ret")
		change(&s)
		want := script.Check(s)
		if m, err := machine.New(s); m != nil || err != want || want == api.OK {
			t.Errorf("New: %v, %d; want error %d", m, err, want)
		}
	}
}

// TestP26_1_Starts: their futures and identities, in order, and their rings.
func TestP26_1_Starts(t *testing.T) {
	s := diamond(t, "func, load 0, ret, func, fail 6")
	s.Workers, s.Rounds = 3, 7
	s.Starts = []api.Start{
		{Arg: -4, Label: 2, Clear: 3, Worker: 1}, {Arg: 5, Label: 0, Clear: 1, Worker: 2}, {Func: 1, Label: 2, Clear: 2, Worker: 1}, {Arg: 8, Label: 0, Clear: 0, Worker: 0},
	}
	m := start(t, s)
	if m.Round() != 0 || m.Live() != 4 {
		t.Errorf("Round %d, Live %d", m.Round(), m.Live())
	}
	for id, label := range map[int32]int{131072: 3, 0: 1, 131073: 2, 1: 0} {
		becomes(t, m, id, api.Future{Label: label})
	}
	want := api.Result{Futures: [][]api.Future{{{Label: 1}, {Label: 0}}, nil, {{Label: 3}, {Label: 2}}, nil}, Fuel: []int{50, 50, 50, 50}}
	if got := m.Result(); len(got.Events) != 0 || len(got.Audit) != 0 || !slices.EqualFunc(got.Futures, want.Futures, slices.Equal[[]api.Future]) || !slices.Equal(got.Fuel, want.Fuel) {
		t.Errorf("Result: %v", got)
	}
	m = runs(t, s, 13,
		"0 0 take 0 1 0 0", "0 0 miss 1 0 0 0", "0 0 take 2 0 0 0", "2 2 miss 0 0 0 0", "2 2 take 1 131073 0 0", "2 2 fail 1 131073 6 0", "2 2 miss 2 0 0 0",
		"4 0 done 0 1 8 0", "4 0 done 2 0 5 0", "6 2 miss 0 0 0 0", "6 2 take 1 131072 0 0", "10 2 done 1 131072 -4 0")
	if m.Live() != 0 || m.Round() != 13 {
		t.Errorf("Live %d, Round %d", m.Live(), m.Round())
	}
	becomes(t, m, 131072, kept(3, -4))
	becomes(t, m, 131073, broken(2, 6))
}

// TestP26_1_NoStarts: no task, so no events, but rounds.
func TestP26_1_NoStarts(t *testing.T) {
	s := diamond(t, "func, push 1, ret")
	s.Starts = nil
	m := runs(t, s, 30)
	if m.Live() != 0 || m.Round() != 30 {
		t.Errorf("Live %d, Round %d", m.Live(), m.Round())
	}
	for _, id := range []int32{math.MinInt32, -1, 0, 1, 65536, 262144, math.MaxInt32} {
		if _, ok := m.Future(id); ok {
			t.Errorf("Future(%d): true", id)
		}
		if _, ok := m.Ref(id); ok {
			t.Errorf("Ref(%d): true", id)
		}
	}
}

// TestP26_1_BeyondMaxRounds: the rounds of the script are no limit for Step.
func TestP26_1_BeyondMaxRounds(t *testing.T) {
	s := single(t, "func, push 1, ret")
	s.Starts = nil
	m := start(t, s)
	for range api.MaxRounds + 10 {
		m.Step()
	}
	if m.Round() != api.MaxRounds+10 {
		t.Errorf("Round: %d", m.Round())
	}
}

// TestP26_1_NothingShared: neither with the script nor among the answers.
func TestP26_1_NothingShared(t *testing.T) {
	for seed := range uint64(100) {
		s, again := samples.Script(seed, true), samples.Script(seed, true)
		m, other := start(t, s), start(t, again)
		if !script.Same(s, again) {
			t.Errorf("script %d is now %v", seed, s)
		}
		for n := range s.Leq {
			clear(s.Leq[n])
			clear(s.Parts[n].Inputs)
			clear(s.Parts[n].Picks)
		}
		for _, f := range s.Image {
			clear(f)
		}
		clear(s.Image)
		clear(s.Gates)
		clear(s.Table)
		clear(s.Parts)
		clear(s.Starts)
		for range 100 {
			a, b := m.Step(), other.Step()
			if !slices.Equal(a, b) {
				t.Fatalf("script %d: %v, want %v", seed, a, b)
			}
			clear(a)
			_ = append(a, api.Event{A: 99})
			r := m.Result()
			clear(r.Events)
			clear(r.Audit)
			clear(r.Fuel)
			for _, l := range r.Futures {
				clear(l)
			}
		}
		if !reflect.DeepEqual(m.Result(), other.Result()) {
			t.Fatalf("script %d: another result", seed)
		}
	}
}

// TestP26_2_Fuel: 1 for each step, and for each waiting task; none for what else happens.
func TestP26_2_Fuel(t *testing.T) {
	s := single(t, "func, push 1, pop, jump 0")
	s.Parts[0].Fuel = 5
	m := runs(t, s, 9, "0 0 take 0 0 0 0", "5 0 fail 0 0 35 0")
	becomes(t, m, 0, broken(0, api.ErrFuel))
	if r := m.Result(); r.Fuel[0] != 0 || m.Live() != 0 {
		t.Errorf("fuel %d, Live %d", r.Fuel[0], m.Live())
	}
	s.Parts[0].Fuel = 0
	m = runs(t, s, 3, "0 0 take 0 0 0 0", "0 0 fail 0 0 35 0")
	becomes(t, m, 0, broken(0, api.ErrFuel))
	// both tasks wait for each other's future, and each examination costs 1
	s = single(t, "func, load 0, wait, ret")
	s.Parts[0].Fuel = 7
	s.Starts = []api.Start{{Arg: 1, Worker: 1}, {Arg: 0, Worker: 0}}
	m = runs(t, s, 4,
		"0 0 take 0 1 0 0", "0 0 take 1 0 0 0", "1 0 park 0 1 0 0", "1 0 park 1 0 1 0", "3 0 fail 1 0 35 0")
	becomes(t, m, 0, broken(0, api.ErrFuel))
	becomes(t, m, 1, api.Future{})
	if r := m.Result(); r.Fuel[0] != 0 || m.Live() != 1 {
		t.Errorf("fuel %d, Live %d", r.Fuel[0], m.Live())
	}
	if got := m.Step(); len(got) != 1 || trace.Text(got[0]) != "4 0 fail 0 1 35 0" {
		t.Errorf("round 4: %v", got)
	}
}

// TestP26_2_Workers: in ascending order, one step each; a task that is held stays held from round to round.
func TestP26_2_Workers(t *testing.T) {
	s := single(t, "func, push 3, emit 0, load 0, ret")
	s.Workers = 3
	s.Parts[0].Picks = []byte{0, 0, 2, 0, 1, 1}
	s.Starts = []api.Start{{Arg: 10, Worker: 1}, {Arg: 11, Worker: 1}}
	runs(t, s, 6,
		"0 0 miss 0 0 0 0", "0 0 take 1 1 0 0", "0 0 miss 2 0 0 0",
		"1 0 miss 0 0 2 0", "1 0 emit 1 1 3 0", "1 0 miss 2 0 0 0",
		"2 0 steal 0 0 1 1", "2 0 take 0 0 0 0",
		"3 0 emit 0 0 3 0", "3 0 done 1 1 11 0",
		"5 0 done 0 0 10 0")
}

// two is a script on labels 0 and 1, with one worker.
func two(t *testing.T, table []int, text string) api.Script {
	t.Helper()
	s := diamond(t, text)
	s.Leq, s.Table, s.Parts = lattice.Chain(2), table, s.Parts[:2]
	s.Starts[0].Clear = 1
	return s
}

// TestP26_2_OrderOfTasks: those that enter, those of them that do not fit, those that wake, those of them that do not fit, the starved ones, the workers.
func TestP26_2_OrderOfTasks(t *testing.T) {
	s := two(t, []int{1, 1, 1, 1, 0, 0, 0, 0, 0, 1}, "func, load 0, wait, ret, func, raise 1, push 1, ret, func, push 5, ret")
	s.Parts[0].Ring, s.Parts[0].Futures, s.Parts[1].Fuel = 4, 4, 7
	s.Starts = []api.Start{
		{Func: 0, Arg: 65536, Label: 1, Clear: 1}, {Func: 0, Arg: 0, Label: 1, Clear: 1},
		{Func: 2, Clear: 1}, {Func: 1, Clear: 1}, {Func: 1, Clear: 1}, {Func: 1, Clear: 1},
	}
	m := runs(t, s, 10,
		"0 1 take 0 65537 0 0", "1 1 park 0 65537 0 0", "2 1 take 0 65536 0 0", "3 1 park 0 65536 65536 0",
		"4 0 take 0 3 0 0", "4 0 leave 0 3 1 0", "5 0 take 0 2 0 0", "5 0 leave 0 2 1 0", "6 0 take 0 1 0 0", "6 0 leave 0 1 1 0", "7 0 take 0 0 0 0", "8 0 done 0 0 5 0",
		"9 1 enter 0 3 0 0", "9 1 enter 0 2 0 0", "9 1 enter 0 1 0 0", "9 1 fail 0 1 33 0", "9 1 wake 0 65537 0 0", "9 1 fail 0 65537 33 0", "9 1 fail 0 65536 35 0", "9 1 take 0 2 0 0", "9 1 fail 0 2 35 0")
	for id, want := range map[int32]api.Future{0: kept(1, 5), 1: broken(1, api.ErrFull), 2: broken(1, api.ErrFuel), 3: {Label: 1}, 65536: broken(1, api.ErrFuel), 65537: broken(1, api.ErrFull)} {
		becomes(t, m, id, want)
	}
	if got := m.Result().Fuel; !slices.Equal(got, []int{45, 0}) || m.Live() != 1 {
		t.Errorf("fuel %v, Live %d", got, m.Live())
	}
}

// TestP26_2_FailWorker: the one who holds the task, and for others the one who had it.
func TestP26_2_FailWorker(t *testing.T) {
	s := two(t, []int{0, 1}, "func, raise 1, push 1, ret")
	s.Workers = 3
	s.Parts[1].Ring, s.Parts[1].Fuel = 1, 0
	s.Starts = []api.Start{{Clear: 1, Worker: 2}, {Clear: 1, Worker: 2}}
	s.Parts[0].Picks = []byte{0, 2}
	runs(t, s, 2,
		"0 0 miss 0 0 0 0", "0 0 steal 1 0 2 1", "0 0 take 1 0 0 0", "0 0 leave 1 0 1 0", "0 0 take 2 1 0 0", "0 0 leave 2 1 1 0",
		"1 1 enter 1 0 0 0", "1 1 enter 2 1 0 0", "1 1 miss 0 0 0 0", "1 1 take 1 0 0 0", "1 1 fail 1 0 35 0", "1 1 take 2 1 0 0", "1 1 fail 2 1 35 0")
	s.Starts = []api.Start{{Clear: 1, Worker: 1}, {Clear: 1, Worker: 1}}
	s.Parts[0].Picks = []byte{0, 0, 0, 0}
	runs(t, s, 4,
		"0 0 miss 0 0 0 0", "0 0 take 1 1 0 0", "0 0 leave 1 1 1 0", "0 0 miss 2 0 0 0",
		"1 1 enter 1 1 0 0", "1 1 miss 0 0 0 0", "1 1 take 1 1 0 0", "1 1 fail 1 1 35 0",
		"2 0 miss 0 0 0 0", "2 0 take 1 0 0 0", "2 0 leave 1 0 1 0",
		"3 1 enter 1 0 0 0", "3 1 miss 0 0 0 0", "3 1 take 1 0 0 0", "3 1 fail 1 0 35 0")
}

// TestP26_2_OrderOfGates: what goes down is there for the tasks of the same round, and in the log.
func TestP26_2_OrderOfGates(t *testing.T) {
	s := two(t, []int{1, 0, 1, 0}, "func, push 4, release 0, ret, func, jump 1, take 0, emit 0, ret")
	s.Gates = []api.Gate{{From: 1, To: 0, Need: 4, Quota: 1}}
	s.Starts = []api.Start{{Func: 0, Label: 1, Clear: 1, Privs: 5}, {Func: 1}}
	m := runs(t, s, 8, "0 1 take 0 65536 0 0", "1 0 take 0 0 0 0", "4 1 done 0 65536 1 0", "5 0 emit 0 0 1 0", "7 0 done 0 0 4 0")
	if got := m.Result().Audit; !slices.Equal(got, []api.Record{{To: 0, Value: 4, Round: 3, By: 65536}}) {
		t.Errorf("Audit: %v", got)
	}
}

// TestP26_3_Outcomes: of the instructions that concern only the task.
func TestP26_3_Outcomes(t *testing.T) {
	m := runs(t, single(t, "func, load 0, push 2, mul, ret"), 6, "0 0 take 0 0 0 0", "3 0 done 0 0 18 0")
	becomes(t, m, 0, kept(0, 18))
	if m.Live() != 0 {
		t.Errorf("Live: %d", m.Live())
	}
	for _, c := range []struct {
		text string
		code api.Errno
		line string
	}{
		{"func, jump 1, fail 99", 99, "1 0 fail 0 0 99 0"}, {"func, jump 1, fail 0", 0, "1 0 fail 0 0 0 0"}, {"func, jump 1, fail -5", -5, "1 0 fail 0 0 -5 0"},
		{"func, push 1, push 0, div, ret", api.ErrDiv, "2 0 fail 0 0 32 0"},
	} {
		m := runs(t, single(t, c.text), 6, "0 0 take 0 0 0 0", c.line)
		becomes(t, m, 0, broken(0, c.code))
		if m.Live() != 0 {
			t.Errorf("Live: %d", m.Live())
		}
	}
}

// alone runs a task of diamond until it ends, behind its first take, and asks for its result.
func alone(t *testing.T, text string, result api.Future, want ...string) *machine.Machine {
	t.Helper()
	m := runs(t, diamond(t, text), 60, append([]string{"0 0 take 0 0 0 0"}, want...)...)
	becomes(t, m, 0, result)
	if m.Live() != 0 {
		t.Errorf("Live: %d", m.Live())
	}
	return m
}

// low is alone, but the task may not go higher than label 1.
func low(t *testing.T, text string, result api.Future, want ...string) {
	t.Helper()
	s := diamond(t, text)
	s.Starts[0].Clear = 1
	m := runs(t, s, 60, append([]string{"0 0 take 0 0 0 0"}, want...)...)
	becomes(t, m, 0, result)
}

// TestP26_3_BeAt: a task goes to the join of its label and the other one, unless that is above its clearance.
func TestP26_3_BeAt(t *testing.T) {
	alone(t, "func, raise 0, label, ret", kept(3, 0), "8 0 done 0 0 0 0")
	alone(t, "func, raise 1, label, ret", kept(3, 1), "0 0 leave 0 0 1 0", "1 1 enter 0 0 0 0", "1 1 take 0 0 0 0", "9 1 done 0 0 1 0")
	alone(t, "func, raise 1, raise 0, raise 2, label, ret", kept(3, 3),
		"0 0 leave 0 0 1 0", "1 1 enter 0 0 0 0", "1 1 take 0 0 0 0", "9 1 leave 0 0 3 0", "11 3 enter 0 0 0 0", "11 3 take 0 0 0 0", "19 3 done 0 0 3 0")
	low(t, "func, raise 2, label, ret", broken(1, api.ErrClear), "0 0 fail 0 0 31 0")
	low(t, "func, raise 3, label, ret", broken(1, api.ErrClear), "0 0 fail 0 0 31 0")
	low(t, "func, raise 1, raise 2, label, ret", broken(1, api.ErrClear), "0 0 leave 0 0 1 0", "1 1 enter 0 0 0 0", "1 1 take 0 0 0 0", "5 1 fail 0 0 31 0")
	low(t, "func, raise 1, raise 1, label, ret", kept(1, 1), "0 0 leave 0 0 1 0", "1 1 enter 0 0 0 0", "1 1 take 0 0 0 0", "13 1 done 0 0 1 0")
}

// TestP26_3_MovesWithAll: stack, local variables and place go along.
func TestP26_3_MovesWithAll(t *testing.T) {
	alone(t, "func, push 5, store 3, push 30, push 1, raise 2, pop, load 3, add, load 0, add, ret", kept(3, 44),
		"16 0 leave 0 0 2 0", "18 2 enter 0 0 0 0", "18 2 take 0 0 0 0", "42 2 done 0 0 44 0")
}

func TestP26_4_Input(t *testing.T) {
	alone(t, "func, push 1, input 0, ret", kept(3, -71), "8 0 done 0 0 -71 0")
	alone(t, "func, push 0, input 2, ret", kept(3, 70), "4 0 leave 0 0 2 0", "6 2 enter 0 0 0 0", "6 2 take 0 0 0 0", "10 2 done 0 0 70 0")
	for _, n := range []string{"-1", "2", "2147483647", "-2147483648"} {
		alone(t, "func, push "+n+", input 0, ret", broken(3, api.ErrNone), "4 0 fail 0 0 36 0")
		alone(t, "func, push "+n+", input 3, ret", broken(3, api.ErrNone), "4 0 leave 0 0 3 0", "7 3 enter 0 0 0 0", "7 3 take 0 0 0 0", "7 3 fail 0 0 36 0")
		low(t, "func, push "+n+", input 3, ret", broken(1, api.ErrClear), "4 0 fail 0 0 31 0")
	}
	// of its own label, not of the one at which the task is
	s := diamond(t, "func, raise 3, push 0, input 1, ret")
	s.Parts[1].Inputs, s.Parts[3].Inputs = []int32{5}, []int32{6}
	becomes(t, runs(t, s, 20, "0 0 take 0 0 0 0", "0 0 leave 0 0 3 0", "3 3 enter 0 0 0 0", "3 3 take 0 0 0 0", "15 3 done 0 0 5 0"), 0, kept(3, 5))
}

// refIs asks for a reference.
func refIs(t *testing.T, m *machine.Machine, id int32, want api.Ref) {
	t.Helper()
	if got, ok := m.Ref(id); got != want || !ok {
		t.Errorf("Ref(%d): %v, %v; want %v", id, got, ok, want)
	}
}

func TestP26_4_New(t *testing.T) {
	m := alone(t, "func, push 50, new 3, push 60, new 0, add, ret", kept(3, 1), "20 0 done 0 0 1 0")
	refIs(t, m, 0, api.Ref{Label: 3, Value: 50})
	refIs(t, m, 1, api.Ref{Label: 0, Value: 60})
	if _, ok := m.Ref(2); ok {
		t.Error("Ref(2): true")
	}
	moves := []string{"0 0 leave 0 0 1 0", "1 1 enter 0 0 0 0", "1 1 take 0 0 0 0"}
	m = alone(t, "func, raise 1, push 7, new 1, ret", kept(3, 65536), append(moves, "13 1 done 0 0 65536 0")...)
	refIs(t, m, 65536, api.Ref{Label: 1, Value: 7})
	alone(t, "func, raise 1, push 7, new 0, ret", broken(3, api.ErrLabel), append(moves, "9 1 fail 0 0 30 0")...)
	alone(t, "func, raise 1, push 7, new 2, ret", broken(3, api.ErrLabel), append(moves, "9 1 fail 0 0 30 0")...)
	low(t, "func, push 7, new 3, ret", broken(1, api.ErrLabel), "4 0 fail 0 0 30 0")
	low(t, "func, push 7, new 1, ret", kept(1, 0), "8 0 done 0 0 0 0")
	alone(t, "func, push 1, new 0, new 0, new 0, ret", broken(3, api.ErrQuota), "12 0 fail 0 0 34 0")
	// first the labels, then the quota
	s := diamond(t, "func, push 1, new 3, ret")
	s.Parts[0].Refs, s.Starts[0].Clear = 0, 1
	becomes(t, runs(t, s, 9, "0 0 take 0 0 0 0", "4 0 fail 0 0 30 0"), 0, broken(1, api.ErrLabel))
}

func TestP26_4_Read(t *testing.T) {
	for _, id := range []string{"-1", "262144", "2147483647", "-2147483648"} {
		low(t, "func, push "+id+", read, ret", broken(1, api.ErrNone), "4 0 fail 0 0 36 0")
	}
	for _, id := range []string{"0", "1", "65535"} {
		low(t, "func, push "+id+", read, ret", broken(1, api.ErrNone), "4 0 fail 0 0 36 0")
	}
	// it goes to the label of the identity before it asks whether there is something
	alone(t, "func, push 65536, read, ret", broken(3, api.ErrNone), "4 0 leave 0 0 1 0", "5 1 enter 0 0 0 0", "5 1 take 0 0 0 0", "5 1 fail 0 0 36 0")
	low(t, "func, push 131072, read, ret", broken(1, api.ErrClear), "4 0 fail 0 0 31 0")
	alone(t, "func, push 8, new 0, read, ret", kept(3, 8), "12 0 done 0 0 8 0")
	alone(t, "func, push 8, new 3, read, label, add, ret", kept(3, 11), "8 0 leave 0 0 3 0", "11 3 enter 0 0 0 0", "11 3 take 0 0 0 0", "23 3 done 0 0 11 0")
	// a reference of a label above, made at 1: first to 1, then to 3
	s := diamond(t, "func, raise 1, push 8, new 3, ret, func, push 4, pop, push 4, pop, push 65536, read, ret")
	s.Starts = []api.Start{{Clear: 3}, {Func: 1, Label: 2, Clear: 3}}
	m := runs(t, s, 40, "0 0 take 0 0 0 0", "0 0 leave 0 0 1 0", "1 1 enter 0 0 0 0", "1 1 take 0 0 0 0", "2 2 take 0 131072 0 0", "13 1 done 0 0 65536 0",
		"22 2 leave 0 131072 3 0", "23 3 enter 0 131072 0 0", "23 3 take 0 131072 0 0", "27 3 done 0 131072 8 0")
	becomes(t, m, 131072, kept(3, 8))
	s.Starts = []api.Start{{Clear: 3}, {Func: 1, Label: 0, Clear: 1, Worker: 0}}
	becomes(t, runs(t, s, 60,
		"0 0 take 0 1 0 0", "20 0 leave 0 1 1 0", "21 1 enter 0 1 0 0", "21 1 take 0 1 0 0", "21 1 fail 0 1 36 0", "24 0 take 0 0 0 0", "24 0 leave 0 0 1 0",
		"25 1 enter 0 0 0 0", "25 1 take 0 0 0 0", "37 1 done 0 0 65536 0"), 1, broken(1, api.ErrNone))
}

func TestP26_4_Write(t *testing.T) {
	for _, id := range []string{"-1", "262144", "-2147483648", "0", "1"} {
		low(t, "func, push "+id+", push 6, write, push 1, ret", broken(1, api.ErrNone), "8 0 fail 0 0 36 0")
	}
	// no write goes anywhere; an identity of another label is an error, whether there is something or not
	for _, id := range []string{"65536", "131072", "196608"} {
		alone(t, "func, push "+id+", push 6, write, push 1, ret", broken(3, api.ErrLabel), "8 0 fail 0 0 30 0")
	}
	m := alone(t, "func, push 8, new 3, push -6, write, push 1, ret", kept(3, 1), "20 0 done 0 0 1 0")
	refIs(t, m, 0, api.Ref{Label: 3, Value: -6})
	m = alone(t, "func, push 8, new 0, store 1, push 9, new 0, pop, load 1, push 5, write, load 1, read, ret", kept(3, 5), "44 0 done 0 0 5 0")
	refIs(t, m, 0, api.Ref{Value: 5})
	refIs(t, m, 1, api.Ref{Value: 9})
	// from label 1, a reference of label 0 made at 0 may be read but not written
	moves := []string{"8 0 leave 0 0 1 0", "9 1 enter 0 0 0 0", "9 1 take 0 0 0 0"}
	m = alone(t, "func, push 8, new 0, raise 1, push 5, write, push 1, ret", broken(3, api.ErrLabel), append(moves, "17 1 fail 0 0 30 0")...)
	refIs(t, m, 0, api.Ref{Value: 8})
	m = alone(t, "func, push 8, new 3, raise 1, push 5, write, push 1, ret", kept(3, 1), append(moves, "25 1 done 0 0 1 0")...)
	refIs(t, m, 0, api.Ref{Label: 3, Value: 5})
	m = alone(t, "func, push 8, new 2, raise 1, push 5, write, push 1, ret", broken(3, api.ErrLabel), append(moves, "17 1 fail 0 0 30 0")...)
	refIs(t, m, 0, api.Ref{Label: 2, Value: 8})
	// above its clearance: the reference is of label 3, and was made by another task at 0
	s := diamond(t, "func, push 8, new 3, ret, func, push 0, push 6, write, push 1, ret")
	s.Starts = []api.Start{{Func: 1, Clear: 1}, {Clear: 3}}
	m = runs(t, s, 40, "0 0 take 0 1 0 0", "8 0 done 0 1 0 0", "12 0 take 0 0 0 0", "20 0 fail 0 0 30 0")
	becomes(t, m, 0, broken(1, api.ErrLabel))
	refIs(t, m, 0, api.Ref{Label: 3, Value: 8})
}

func TestP26_4_Emit(t *testing.T) {
	alone(t, "func, push 8, emit 0, push -9, emit 3, push 1, ret", kept(3, 1), "4 0 emit 0 0 8 0", "12 3 emit 0 0 -9 0", "20 0 done 0 0 1 0")
	moves := []string{"0 0 leave 0 0 2 0", "2 2 enter 0 0 0 0", "2 2 take 0 0 0 0"}
	alone(t, "func, raise 2, push 8, emit 2, push 8, emit 3, push 1, ret", kept(3, 1), append(moves, "10 2 emit 0 0 8 0", "18 3 emit 0 0 8 0", "26 2 done 0 0 1 0")...)
	alone(t, "func, raise 2, push 8, emit 0, push 1, ret", broken(3, api.ErrLabel), append(moves, "10 2 fail 0 0 30 0")...)
	alone(t, "func, raise 2, push 8, emit 1, push 1, ret", broken(3, api.ErrLabel), append(moves, "10 2 fail 0 0 30 0")...)
	low(t, "func, push 8, emit 3, push 1, ret", broken(1, api.ErrLabel), "4 0 fail 0 0 30 0")
	low(t, "func, push 8, emit 1, push 1, ret", kept(1, 1), "4 1 emit 0 0 8 0", "12 0 done 0 0 1 0")
}

func TestP26_4_Fork(t *testing.T) {
	m := alone(t, "func, push 1, push 30, fork 1, ret, func, load 0, emit 1, label, load 1, add, ret", kept(3, 1),
		"8 0 fork 0 0 1 0", "12 0 done 0 0 1 0", "16 0 take 0 1 0 0", "20 1 emit 0 1 30 0", "36 0 done 0 1 0 0")
	becomes(t, m, 1, kept(1, 0))
	// the other task has the privileges, and its clearance is its future's label
	s := diamond(t, "func, push 1, push 30, fork 1, ret, func, load 0, release 0, pop, raise 3, push 1, ret")
	s.Gates = []api.Gate{{From: 0, To: 0, Need: 5, Quota: 1}}
	m = runs(t, s, 60, "0 0 take 0 0 0 0", "8 0 fork 0 0 1 0", "12 0 done 0 0 1 0", "16 0 take 0 1 0 0", "28 0 fail 0 1 31 0")
	if got := m.Result().Audit; !slices.Equal(got, []api.Record{{Value: 30, Round: 24, By: 1}}) {
		t.Errorf("Audit: %v", got)
	}
	becomes(t, m, 1, broken(1, api.ErrClear))
	for _, label := range []string{"-1", "4", "2147483647", "-2147483648", "65536"} {
		alone(t, "func, push "+label+", push 30, fork 0, ret", broken(3, api.ErrLabel), "8 0 fail 0 0 30 0")
	}
	moves := []string{"0 0 leave 0 0 1 0", "1 1 enter 0 0 0 0", "1 1 take 0 0 0 0"}
	for label, flows := range map[string]bool{"0": false, "1": true, "2": false, "3": true} {
		text := "func, raise 1, push " + label + ", push 1, fork 1, ret, func, fail 7"
		if !flows {
			alone(t, text, broken(3, api.ErrLabel), append(moves, "13 1 fail 0 0 30 0")...)
			continue
		}
		m := alone(t, text, kept(3, 65536), append(moves, "13 1 fork 0 0 65536 0", "17 1 done 0 0 65536 0", "21 1 take 0 65536 0 0", "21 1 fail 0 65536 7 0")...)
		becomes(t, m, 65536, broken(int(label[0]-'0'), 7))
	}
	low(t, "func, push 3, push 30, fork 0, ret", broken(1, api.ErrLabel), "8 0 fail 0 0 30 0")
}

// TestP26_4_ForkLimits: first the labels, then the room in the ring, then the quota.
func TestP26_4_ForkLimits(t *testing.T) {
	text := "func, push 1, push 1, fork 1, push 1, push 1, fork 1, push 1, push 1, fork 1, ret, func, fail 7"
	s := diamond(t, text)
	forks := []string{"0 0 take 0 0 0 0", "8 0 fork 0 0 1 0", "20 0 fork 0 0 2 0"}
	becomes(t, runs(t, s, 33, append(forks, "32 0 fail 0 0 33 0")...), 0, broken(3, api.ErrFull))
	s.Parts[0].Ring = 3
	becomes(t, runs(t, s, 33, append(forks, "32 0 fail 0 0 34 0")...), 0, broken(3, api.ErrQuota))
	s.Parts[0].Futures = 4
	m := runs(t, s, 33, append(forks, "32 0 fork 0 0 3 0")...)
	if m.Live() != 4 {
		t.Errorf("Live: %d", m.Live())
	}
	s.Parts[0].Ring, s.Parts[0].Futures = 2, 3
	s.Image = code(t, strings.Replace(text, "push 1, push 1, fork 1, ret", "push 9, push 1, fork 1, ret", 1))
	becomes(t, runs(t, s, 33, append(forks, "32 0 fail 0 0 30 0")...), 0, broken(3, api.ErrLabel))
	// a ring of another worker has no room for it either
	s = diamond(t, "func, push 1, push 1, fork 1, ret, func, load 0, ret")
	s.Workers, s.Parts[0].Ring, s.Parts[0].Picks = 2, 1, []byte{0}
	m = runs(t, s, 30, "0 0 take 0 0 0 0", "8 0 fork 0 0 1 0", "8 0 steal 1 1 0 1", "8 0 take 1 1 0 0", "12 0 done 0 0 1 0", "12 0 done 1 1 1 0")
	becomes(t, m, 1, kept(1, 1))
}

func TestP26_4_Wait(t *testing.T) {
	for _, id := range []string{"-1", "262144", "2147483647", "-2147483648", "1", "65535"} {
		low(t, "func, push "+id+", wait, ret", broken(1, api.ErrNone), "4 0 fail 0 0 36 0")
	}
	alone(t, "func, push 131072, wait, ret", broken(3, api.ErrNone), "4 0 leave 0 0 2 0", "6 2 enter 0 0 0 0", "6 2 take 0 0 0 0", "6 2 fail 0 0 36 0")
	low(t, "func, push 131072, wait, ret", broken(1, api.ErrClear), "4 0 fail 0 0 31 0")
	// it waits at the label of the future, is woken when that is Kept, and goes on with its value
	m := alone(t, "func, push 1, push 40, fork 1, wait, ret, func, load 0, ret", kept(3, 40),
		"8 0 fork 0 0 1 0", "12 0 leave 0 0 1 0", "13 1 enter 0 0 0 0", "13 1 take 0 0 0 0", "13 1 park 0 0 1 0", "16 0 take 0 1 0 0", "20 0 done 0 1 40 0",
		"21 1 wake 0 0 0 0", "21 1 take 0 0 0 0", "25 1 done 0 0 40 0")
	becomes(t, m, 1, kept(1, 40))
	// Broken
	alone(t, "func, push 1, push 40, fork 1, wait, ret, func, fail 8", broken(3, api.ErrChild),
		"8 0 fork 0 0 1 0", "12 0 leave 0 0 1 0", "13 1 enter 0 0 0 0", "13 1 take 0 0 0 0", "13 1 park 0 0 1 0", "16 0 take 0 1 0 0", "16 0 fail 0 1 8 0",
		"17 1 wake 0 0 0 0", "17 1 take 0 0 0 0", "17 1 fail 0 0 37 0")
	// not Open any more
	s := diamond(t, "func, push 0, wait, push 3, add, ret, func, load 0, ret")
	s.Starts = []api.Start{{Func: 1, Arg: 6}, {Func: 0, Clear: 3}}
	s.Workers, s.Starts[0].Worker = 2, 1
	m = runs(t, s, 30, "0 0 take 0 1 0 0", "0 0 take 1 0 0 0", "4 0 park 0 1 0 0", "4 0 done 1 0 6 0", "8 0 wake 0 1 0 0", "8 0 take 0 1 0 0", "20 0 done 0 1 9 0")
	becomes(t, m, 1, kept(3, 9))
	s.Image = code(t, "func, jump 1, push 0, wait, push 3, add, ret, func, load 0, ret")
	m = runs(t, s, 30, "0 0 take 0 1 0 0", "0 0 take 1 0 0 0", "4 0 done 1 0 6 0", "20 0 done 0 1 9 0")
	becomes(t, m, 1, kept(3, 9))
}

func TestP26_4_Release(t *testing.T) {
	gates := []api.Gate{{From: 3, To: 0, Need: 4, Quota: 1}, {From: 1, To: 2, Need: 0, Quota: 2}, {From: 3, To: 1, Need: 6, Quota: 2}}
	run := func(text string, audit []api.Record, want ...string) {
		t.Helper()
		s := diamond(t, text)
		s.Gates = gates
		m := runs(t, s, 60, append([]string{"0 0 take 0 0 0 0"}, want...)...)
		if got := m.Result().Audit; !slices.Equal(got, audit) {
			t.Errorf("Audit: %v, want %v", got, audit)
		}
	}
	run("func, push 8, release 0, ret", []api.Record{{Gate: 0, To: 0, Value: 8, Round: 8}}, "8 0 done 0 0 1 0")
	run("func, push 8, release 0, push -9, release 0, push 2, mul, add, ret", []api.Record{{Gate: 0, To: 0, Value: 8, Round: 8}}, "28 0 done 0 0 1 0")
	run("func, push 8, release 1, push -9, release 1, push 2, mul, add, ret", []api.Record{{Gate: 1, To: 2, Value: 8, Round: 6}, {Seq: 1, Gate: 1, To: 2, Value: -9, Round: 14}}, "28 0 done 0 0 3 0")
	run("func, push 8, release 2, ret", nil, "8 0 done 0 0 0 0")
	run("func, raise 2, push 8, release 1, ret", nil, "0 0 leave 0 0 2 0", "2 2 enter 0 0 0 0", "2 2 take 0 0 0 0", "14 2 done 0 0 0 0")
	run("func, raise 2, push 8, release 0, ret", []api.Record{{Gate: 0, To: 0, Value: 8, Round: 12}}, "0 0 leave 0 0 2 0", "2 2 enter 0 0 0 0", "2 2 take 0 0 0 0", "14 2 done 0 0 1 0")
	// the quota is of each label
	run("func, push 8, release 0, raise 3, push 9, release 0, add, ret", []api.Record{{Gate: 0, To: 0, Value: 8, Round: 8}, {Seq: 1, Gate: 0, To: 0, Value: 9, Round: 20}},
		"8 0 leave 0 0 3 0", "11 3 enter 0 0 0 0", "11 3 take 0 0 0 0", "27 3 done 0 0 2 0")
}

func TestP26_4_Take(t *testing.T) {
	run := func(clear int, text string, want ...string) {
		t.Helper()
		s := diamond(t, text)
		s.Gates = []api.Gate{{From: 3, To: 1, Quota: 2}, {From: 3, To: 0, Quota: 2}}
		s.Starts[0].Clear = clear
		runs(t, s, 80, append([]string{"0 0 take 0 0 0 0"}, want...)...)
	}
	run(3, "func, take 1, pop, ret", "8 0 done 0 0 0 0")
	run(3, "func, take 1, ret", "4 0 done 0 0 0 0")
	// 8, then 9, then nothing
	run(3, "func, push 8, release 1, pop, push 9, release 1, pop, take 1, pop, take 1, pop, push 10, mul, add, take 1, add, add, ret", "64 0 done 0 0 98 0")
	run(3, "func, push 8, release 1, pop, push 9, release 1, pop, take 1, add, ret", "32 0 done 0 0 9 0")
	// another gate
	run(3, "func, push 8, release 1, pop, raise 1, take 0, pop, ret", "12 0 leave 0 0 1 0", "13 1 enter 0 0 0 0", "13 1 take 0 0 0 0", "25 1 done 0 0 0 0")
	run(3, "func, push 8, release 0, pop, take 0, pop, ret", "12 0 leave 0 0 1 0", "13 1 enter 0 0 0 0", "13 1 take 0 0 0 0", "21 1 done 0 0 8 0")
	run(3, "func, take 0, pop, label, ret", "0 0 leave 0 0 1 0", "1 1 enter 0 0 0 0", "1 1 take 0 0 0 0", "13 1 done 0 0 1 0")
	run(2, "func, take 0, pop, ret", "0 0 fail 0 0 31 0")
	run(3, "func, raise 1, take 1, pop, ret", "0 0 leave 0 0 1 0", "1 1 enter 0 0 0 0", "1 1 take 0 0 0 0", "5 1 fail 0 0 30 0")
	run(3, "func, raise 2, take 0, pop, ret", "0 0 leave 0 0 2 0", "2 2 enter 0 0 0 0", "2 2 take 0 0 0 0", "6 2 fail 0 0 30 0")
	// first whether it may, then whether it can
	run(2, "func, raise 2, take 0, pop, ret", "0 0 leave 0 0 2 0", "2 2 enter 0 0 0 0", "2 2 take 0 0 0 0", "6 2 fail 0 0 30 0")
}

// TestP26_5_NothingBelow: in a round of a label, everything that belongs to labels to which it does not flow stays as it is.
func TestP26_5_NothingBelow(t *testing.T) {
	for seed := range uint64(400) {
		s := samples.Script(seed, true)
		m := start(t, s)
		before := m.Result()
		for range 100 {
			c := s.Table[m.Round()%len(s.Table)]
			for _, e := range m.Step() {
				if e.Label != c && !(e.Kind == api.EvEmit && s.Leq[c][e.Label]) {
					t.Fatalf("script %d: %v in a round of label %d", seed, e, c)
				}
			}
			after := m.Result()
			for label := range s.Leq {
				if label != c && (after.Fuel[label] != before.Fuel[label] || len(after.Futures[label]) != len(before.Futures[label])) {
					t.Fatalf("script %d: fuel or number of futures of label %d changed in a round of label %d", seed, label, c)
				}
				for n, f := range before.Futures[label] {
					if f != after.Futures[label][n] && !s.Leq[c][f.Label] {
						t.Fatalf("script %d: %v became %v in a round of label %d", seed, f, after.Futures[label][n], c)
					}
				}
			}
			for _, r := range after.Audit[len(before.Audit):] {
				if r.To != c || r.Round != m.Round()-1 {
					t.Fatalf("script %d: %v in round %d of label %d", seed, r, m.Round()-1, c)
				}
			}
			before = after
		}
	}
}

// TestP26_2_SideBySide: machines have nothing in common, in one goroutine or in several.
func TestP26_2_SideBySide(t *testing.T) {
	s := samples.Script(7, true)
	want := start(t, s)
	for range 100 {
		want.Step()
	}
	var all sync.WaitGroup
	for range 8 {
		all.Go(func() {
			m, _ := machine.New(s)
			for range 100 {
				m.Step()
			}
			if !reflect.DeepEqual(m.Result(), want.Result()) {
				t.Error("another result")
			}
		})
	}
	all.Wait()
}
