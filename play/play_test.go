package play_test

import (
	"math"
	"reflect"
	"slices"
	"strings"
	"sync"
	"testing"

	"confidant/api"
	"confidant/image"
	"confidant/lattice"
	"confidant/machine"
	"confidant/play"
	"confidant/run"
	"confidant/samples"
	"confidant/script"
	"confidant/table"
	"confidant/tree"
	"confidant/watch"
)

// code is the image of some text, in which a comma ends a line too.
func code(t *testing.T, text string) api.Image {
	t.Helper()
	m, line, err := image.Parse(strings.ReplaceAll(text, ", ", "\n"))
	if err != api.OK {
		t.Fatalf("line %d of %q: %d", line, text, err)
	}
	return m
}

// good is a script on labels 0 and 1 without starts; all of it is new.
func good(t *testing.T) api.Script {
	t.Helper()
	return api.Script{
		Leq: lattice.Chain(2), Image: code(t, "func, fail 5"), Table: []int{0, 1, 1}, Parts: []api.Part{{Ring: 3, Fuel: 20, Futures: 4}, {Ring: 2, Fuel: 30, Refs: 7, Futures: 5, Inputs: []int32{6}}}, Workers: 2, Rounds: 40,
	}
}

func TestP30_1_Bound(t *testing.T) {
	if got := play.Bound(good(t)); got != 3*(50+2*10+1) {
		t.Errorf("Bound: %d", got)
	}
	s := good(t)
	s.Leq, s.Table, s.Parts = lattice.Chain(1), []int{0}, []api.Part{{Ring: 1}}
	if got := play.Bound(s); got != 2 {
		t.Errorf("Bound of the least script: %d", got)
	}
	s.Leq, s.Table = lattice.Chain(16), make([]int, 64)
	s.Parts = slices.Repeat([]api.Part{{Ring: 1, Fuel: api.MaxFuel, Futures: api.MaxQuota}}, 16)
	if got := play.Bound(s); got != 64*(1<<24+16*(65536+1)+1) {
		t.Errorf("Bound of the greatest script: %d", got)
	}
	for seed := range uint64(300) {
		s := samples.Script(seed, true)
		fuel, futures := 0, 0
		for _, p := range s.Parts {
			fuel += p.Fuel
			futures += p.Futures
		}
		if got, want := play.Bound(s), len(s.Table)*(fuel+len(s.Leq)*(1+futures)+1); got != want {
			t.Errorf("Bound of script %d: %d, want %d", seed, got, want)
		}
	}
}

// TestP30_1_Errors: of scripts with an error, nothing holds.
func TestP30_1_Errors(t *testing.T) {
	for n, change := range []func(s *api.Script){
		func(s *api.Script) { *s = api.Script{} }, func(s *api.Script) { s.Leq[0][0] = false }, func(s *api.Script) { s.Image = nil }, func(s *api.Script) { s.Gates = make([]api.Gate, 17) }, func(s *api.Script) { s.Table[0] = 2 },
		func(s *api.Script) { s.Workers = 0 }, func(s *api.Script) { s.Parts[0].Fuel = -1 }, func(s *api.Script) { s.Rounds = 65537 }, func(s *api.Script) { s.Starts = make([]api.Start, 4) },
	} {
		s := good(t)
		change(&s)
		if play.Bound(s) != 0 || play.Over(s) || play.Orderly(s, api.Result{}) || play.Hides(s, s, 0, 5) || play.Hides(good(t), s, 0, 5) || play.Hides(s, good(t), 0, 5) {
			t.Errorf("change %d: Bound %d, Over %v, Orderly %v, Hides %v", n, play.Bound(s), play.Over(s), play.Orderly(s, api.Result{}), play.Hides(s, s, 0, 5))
		}
	}
}

// TestP30_1_Over: whatever the tasks do, if only each label has rounds.
func TestP30_1_Over(t *testing.T) {
	for _, c := range []struct {
		table []int
		want  bool
	}{{[]int{0, 1}, true}, {[]int{1, 0}, true}, {[]int{0}, false}, {[]int{1}, false}, {[]int{1, 1, 1}, false}, {[]int{1, 1, 0, 1}, true}} {
		s := good(t)
		s.Table = c.table
		if got := play.Over(s); got != c.want {
			t.Errorf("Over with table %v and no tasks: %v", c.table, got)
		}
		for _, text := range []string{"func, jump 0", "func, push 0, ret", "func, push 0, wait, ret", "func, raise 1, jump 0", "func, push 1, push 0, fork 0, pop, jump 0", "func, fail 1"} {
			s.Image, s.Starts = code(t, text), []api.Start{{Clear: 1}, {Clear: 0}, {Label: 1, Clear: 1, Worker: 1}}
			if got := play.Over(s); got != c.want {
				t.Errorf("Over with table %v and code %q: %v", c.table, text, got)
			}
		}
	}
	for seed := range uint64(500) {
		s := samples.Script(seed, true)
		before := samples.Script(seed, true)
		if got, want := play.Over(s), table.All(s.Table, len(s.Leq)); got != want || !script.Same(s, before) {
			t.Errorf("Over of script %d: %v", seed, got)
		}
		s.Table = []int{0}
		if got, want := play.Over(s), len(s.Leq) == 1; got != want {
			t.Errorf("Over of script %d with a short table: %v", seed, got)
		}
	}
}

// leaks is a script whose task at label 1 lets an input down to label 0, in round 5 at the earliest.
func leaks(t *testing.T, secret int32) api.Script {
	t.Helper()
	s := good(t)
	s.Table, s.Gates, s.Parts[1].Inputs = []int{1, 0}, []api.Gate{{From: 1, To: 0, Quota: 1}}, []int32{secret}
	s.Image, s.Starts = code(t, "func, push 0, input 1, release 0, ret"), []api.Start{{Label: 1, Clear: 1}}
	return s
}

func TestP30_1_Hides(t *testing.T) {
	a, b := leaks(t, 5), leaks(t, 6)
	for _, rounds := range []int{math.MinInt, -1, 0, 1, 4, 5, 6, 7, 100, math.MaxInt} {
		if got := play.Hides(a, b, 0, rounds); got != (rounds < 6) || play.Hides(b, a, 0, rounds) != got {
			t.Errorf("Hides %d rounds: %v", rounds, got)
		}
		if !play.Hides(a, a, 0, rounds) || !play.Hides(a, a, 1, rounds) || !play.Hides(b, leaks(t, 6), 1, rounds) {
			t.Errorf("Hides %d rounds of a script and itself: false", rounds)
		}
		if play.Hides(a, b, 1, rounds) {
			t.Errorf("Hides %d rounds from a label that may see the input: true", rounds)
		}
	}
	b = leaks(t, 5)
	b.Workers = 1
	if play.Hides(a, b, 0, 0) {
		t.Error("Hides of scripts that are not alike: true")
	}
	b = leaks(t, 5)
	b.Rounds = 7
	if !play.Hides(a, b, 0, 50) {
		t.Error("Hides of scripts with other Rounds: false")
	}
}

// TestP30_1_HidesEvents: not only records, but also events are compared.
func TestP30_1_HidesEvents(t *testing.T) {
	a, b := leaks(t, 5), leaks(t, 6)
	for _, s := range []*api.Script{&a, &b} {
		s.Image = code(t, "func, push 0, input 1, release 0, ret, func, take 0, jumpz 4, emit 0, jump 0, pop, jump 0")
		s.Starts = append(s.Starts, api.Start{Func: 1})
	}
	x, _ := run.Upto(a, 30)
	y, _ := run.Upto(b, 30)
	if watch.Same(watch.See(a, api.Result{Events: x.Events}, 0), watch.See(b, api.Result{Events: y.Events}, 0)) {
		t.Error("nothing is emitted")
	}
	if play.Hides(a, b, 0, 30) {
		t.Error("Hides: true")
	}
}

// event is one of a task in round 0 at label 0.
func event(kind int, id int32) api.Event {
	return api.Event{Kind: kind, Task: id}
}

// orderly asks for events of a script whose rounds belong to labels 0, 1, 1.
func orderly(t *testing.T, want bool, l ...api.Event) {
	t.Helper()
	before := slices.Clone(l)
	if got := play.Orderly(good(t), api.Result{Events: l}); got != want {
		t.Errorf("Orderly of %v: %v", l, got)
	}
	if !slices.Equal(l, before) {
		t.Errorf("the events are now %v", l)
	}
}

func TestP30_2_Rounds(t *testing.T) {
	at := func(label int, rounds ...int) []api.Event {
		var out []api.Event
		for _, round := range rounds {
			out = append(out, api.Event{Round: round, Label: label, Kind: api.EvMiss})
		}
		return out
	}
	orderly(t, true)
	orderly(t, true, at(0, 0, 0, 3, 3, 300, 65535*3)...)
	orderly(t, true, at(1, 1, 1, 2, 4, 5, 7, math.MaxInt)...)
	orderly(t, true, at(0, math.MinInt, -7, -1, -1, 0)...)
	orderly(t, false, at(0, 3, 0)...)
	orderly(t, false, at(1, 1, 2, 4, 2)...)
	orderly(t, false, at(1, 2, 1)...)
	orderly(t, false, at(0, 0, -1)...)
	orderly(t, true, api.Event{Round: 2, Label: 1, Kind: api.EvMiss}, api.Event{Round: 3, Label: 0, Kind: api.EvMiss}, api.Event{Round: 4, Label: 1, Kind: api.EvMiss})
	for round := -3; round < 12; round++ {
		for _, label := range []int{math.MinInt, -1, 0, 1, 2, 1 << 32, math.MaxInt} {
			want := label == []int{0, 1, 1}[max(round, 0)%3]
			for _, kind := range []int{api.EvTake, api.EvSteal, api.EvMiss, api.EvFail} {
				orderly(t, want, api.Event{Round: round, Label: label, Kind: kind})
			}
			now := []int{0, 1, 1}[max(round, 0)%3]
			orderly(t, true, api.Event{Round: round, Label: now, Kind: api.EvTake}, api.Event{Round: round, Label: label, Kind: api.EvEmit})
			for _, kind := range []int{api.EvPark, api.EvLeave, api.EvFork, api.EvDone, api.EvFail} {
				orderly(t, want, api.Event{Round: round, Label: now, Kind: api.EvTake}, api.Event{Round: round, Label: label, Kind: kind})
			}
		}
	}
	// the round of an EvEmit counts too
	orderly(t, false, event(api.EvTake, 1), api.Event{Round: 3, Kind: api.EvEmit, Task: 1}, api.Event{Round: 0, Kind: api.EvMiss})
	orderly(t, false, api.Event{Round: 3, Kind: api.EvTake, Task: 1}, api.Event{Kind: api.EvEmit, Task: 1})
}

// plainTask is the state machine as the chapter tells it, with words for the states.
func plainTask(kinds []int) bool {
	state := "ready"
	for _, kind := range kinds {
		next := map[string]map[int]string{
			"ready":  {api.EvTake: "held", api.EvFail: "finished"},
			"held":   {api.EvFork: "held", api.EvEmit: "held", api.EvPark: "parked", api.EvLeave: "away", api.EvDone: "finished", api.EvFail: "finished"},
			"parked": {api.EvWake: "ready", api.EvFail: "finished"},
			"away":   {api.EvEnter: "ready"},
		}[state][kind]
		if kind == api.EvSteal || kind == api.EvMiss {
			next = state
		}
		if next == "" {
			return false
		}
		state = next
	}
	return true
}

// TestP30_2_AllSequences: every short sequence of events of a task.
func TestP30_2_AllSequences(t *testing.T) {
	kinds := []int{0, 1, 2, 3, 4, 5, 6, 7, 8, 9, 10, 11, 12}
	s := good(t)
	for size := range 5 {
		for c := range int(math.Pow(13, float64(size))) {
			var l []int
			var events []api.Event
			for range size {
				l = append(l, kinds[c%13])
				events = append(events, event(kinds[c%13], 7))
				c /= 13
			}
			if got := play.Orderly(s, api.Result{Events: events}); got != plainTask(l) {
				t.Fatalf("Orderly of kinds %v: %v", l, got)
			}
		}
	}
	for _, kind := range []int{math.MinInt, -1, 13, 1<<32 + 1, math.MaxInt} {
		orderly(t, false, event(kind, 1))
		orderly(t, false, event(api.EvTake, 1), event(kind, 1))
	}
}

// TestP30_2_LongSequences: of one task, with every event in between.
func TestP30_2_LongSequences(t *testing.T) {
	long := []int{api.EvTake, api.EvFork, api.EvPark, api.EvWake, api.EvTake, api.EvEmit, api.EvLeave, api.EvEnter, api.EvTake, api.EvFork, api.EvEmit, api.EvLeave, api.EvEnter, api.EvTake, api.EvPark, api.EvWake, api.EvTake, api.EvDone}
	for end := range len(long) + 1 {
		for kind := range 13 {
			l := append(slices.Clone(long[:end]), kind)
			var events []api.Event
			for _, k := range l {
				events = append(events, event(k, -5))
			}
			orderly(t, plainTask(l), events...)
		}
	}
}

// TestP30_2_ManyTasks: each of them has a state of its own; EvSteal and EvMiss change none.
func TestP30_2_ManyTasks(t *testing.T) {
	orderly(t, true, event(api.EvTake, 1), event(api.EvTake, 2), event(api.EvTake, 0), event(api.EvDone, 2), event(api.EvFork, 1), event(api.EvFail, 0), event(api.EvSteal, 2), event(api.EvMiss, 0), event(api.EvPark, 1), event(api.EvSteal, 1), event(api.EvWake, 1))
	orderly(t, false, event(api.EvTake, 1), event(api.EvTake, 2), event(api.EvDone, 2), event(api.EvTake, 2), event(api.EvDone, 1))
	orderly(t, false, event(api.EvTake, 1), event(api.EvDone, 2))
	orderly(t, false, event(api.EvTake, math.MinInt32), event(api.EvTake, math.MaxInt32), event(api.EvDone, 0))
	// what else an event has is of no account
	orderly(t, true, api.Event{Kind: api.EvTake, Task: 1, Worker: 99, A: 5, B: 6}, api.Event{Kind: api.EvDone, Task: 1, Worker: -3, A: -5})
	var l []api.Event
	for id := range int32(5000) {
		l = append(l, event(api.EvTake, id))
	}
	orderly(t, true, l...)
	orderly(t, false, append(l, event(api.EvTake, 2500))...)
}

// TestP30_3_Forest: the script that the chapter tells of, on several lattices.
func TestP30_3_Forest(t *testing.T) {
	part := api.Part{Ring: 5, Half: true, Fuel: 6, Refs: 7, Futures: 8, Inputs: []int32{9, 10}, Picks: []byte{11, 12}, Seed: 13}
	trees := [][]api.Tree{{{Kind: api.Leaf, Value: 4}}, {{Kind: api.Diff, Label: 1, Kids: []int{1, 2}}, {Kind: api.Prod, Label: 15}, {Kind: api.Sum}}, samples.Tree(3, lattice.Powers(2), 0)}
	for _, leq := range [][][]bool{lattice.Chain(1), lattice.Powers(2), lattice.Chain(16), {{true, false}, {true, true}}} {
		l, _ := lattice.New(leq)
		for _, x := range trees {
			for label := range leq {
				for _, workers := range []int{1, 8} {
					m, _ := tree.Compile(x)
					want := api.Script{Leq: leq, Image: m, Table: []int{0, len(leq) - 1}, Parts: slices.Repeat([]api.Part{part}, len(leq)), Workers: workers, Starts: []api.Start{{Label: label, Clear: l.Top()}}}
					given := slices.Clone(want.Table)
					got, ok := play.Forest(leq, x, label, workers, given, part)
					if !script.Same(got, want) || !ok {
						t.Errorf("Forest: %v, %v; want %v", got, ok, want)
					}
				}
			}
		}
	}
}

// TestP30_3_ForestErrors: of the tree, and all that script.Check finds.
func TestP30_3_ForestErrors(t *testing.T) {
	type arguments struct {
		leq            [][]bool
		t              []api.Tree
		label, workers int
		table          []int
		p              api.Part
	}
	for n, c := range []struct {
		want   bool
		change func(a *arguments)
	}{
		{true, func(a *arguments) {}}, {false, func(a *arguments) { a.leq = nil }}, {false, func(a *arguments) { a.leq = [][]bool{{true, true}, {true, true}} }}, {false, func(a *arguments) { a.leq = make([][]bool, 2) }}, {false, func(a *arguments) { a.leq = lattice.Chain(16)[1:] }},
		{false, func(a *arguments) { a.t = nil }}, {false, func(a *arguments) { a.t[0].Kind = 9 }}, {false, func(a *arguments) { a.t = append(a.t, a.t...) }}, {false, func(a *arguments) { a.t[0].Label = 16 }}, {true, func(a *arguments) { a.t[0].Label = 15 }},
		{false, func(a *arguments) { a.label = -1 }}, {false, func(a *arguments) { a.label = 2 }}, {true, func(a *arguments) { a.label = 1 }}, {false, func(a *arguments) { a.workers = 0 }}, {false, func(a *arguments) { a.workers = 9 }}, {true, func(a *arguments) { a.workers = 8 }},
		{false, func(a *arguments) { a.table = nil }}, {false, func(a *arguments) { a.table = []int{2} }}, {false, func(a *arguments) { a.table = make([]int, 65) }}, {true, func(a *arguments) { a.table = []int{0} }},
		{false, func(a *arguments) { a.p = api.Part{} }}, {false, func(a *arguments) { a.p.Ring = 65 }}, {false, func(a *arguments) { a.p.Futures = 0 }}, {false, func(a *arguments) { a.p.Fuel = -1 }}, {false, func(a *arguments) { a.p.Inputs = make([]int32, 65) }}, {true, func(a *arguments) { a.p.Fuel = 0 }},
	} {
		a := arguments{lattice.Chain(2), []api.Tree{{Kind: api.Leaf, Value: 4}}, 0, 1, []int{0, 1}, api.Part{Ring: 1, Fuel: 5, Futures: 1}}
		c.change(&a)
		s, ok := play.Forest(a.leq, a.t, a.label, a.workers, a.table, a.p)
		if ok != c.want || !ok && !reflect.DeepEqual(s, api.Script{}) || ok && script.Check(s) != api.OK {
			t.Errorf("Forest with change %d: %v, %v", n, s, ok)
		}
	}
}

// TestP30_3_ForestIsNew: neither with its arguments nor within itself does the script have memory in common.
func TestP30_3_ForestIsNew(t *testing.T) {
	leq, rounds := lattice.Powers(2), []int{0, 1, 2, 3, 99}
	part := api.Part{Ring: 2, Fuel: 9, Futures: 5, Inputs: []int32{1, 2, 3}[:2], Picks: []byte{4, 5, 6}[:2]}
	x := []api.Tree{{Kind: api.Sum, Kids: []int{1}}, {Kind: api.Leaf, Value: 4}}
	s, _ := play.Forest(leq, x, 0, 1, rounds[:4], part)
	want, _ := play.Forest(lattice.Powers(2), x, 0, 1, []int{0, 1, 2, 3}, part)
	_ = append(s.Table, 77)
	if rounds[4] != 99 || !reflect.DeepEqual(leq, lattice.Powers(2)) {
		t.Errorf("the arguments are now %v, %v", rounds, leq)
	}
	for _, row := range leq {
		clear(row)
	}
	clear(rounds)
	clear(part.Inputs)
	clear(part.Picks)
	x[0].Kids[0], x[1].Value = 9, 9
	for n := range s.Parts[1:] {
		clear(s.Parts[n].Inputs)
		clear(s.Parts[n].Picks)
	}
	for n := range s.Parts[1:] {
		s.Parts[n].Inputs, s.Parts[n].Picks = []int32{1, 2}, []byte{4, 5}
	}
	if want.Parts[0].Inputs[1] != 2 || !script.Same(s, want) {
		t.Errorf("now %v, want %v", s, want)
	}
}

// TestP30_1_SideBySide: the answers are the same in several goroutines.
func TestP30_1_SideBySide(t *testing.T) {
	a, b := leaks(t, 5), leaks(t, 6)
	var all sync.WaitGroup
	for range 8 {
		all.Go(func() {
			for range 10 {
				if !play.Over(a) || play.Hides(a, b, 0, 9) || !play.Hides(a, b, 0, 5) {
					t.Error("another answer")
				}
			}
		})
	}
	all.Wait()
}

// TestP30_1_OverIsAboutTheMachine: the same as performing the rounds by hand.
func TestP30_1_OverIsAboutTheMachine(t *testing.T) {
	for seed := range uint64(40) {
		s := samples.Script(seed, true)
		m, _ := machine.New(s)
		for range play.Bound(s) {
			m.Step()
		}
		if got := play.Over(s); got != (m.Live() == 0) {
			t.Errorf("Over of script %d: %v, but Live is %d", seed, got, m.Live())
		}
	}
}
