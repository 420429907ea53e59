package deck_test

import (
	"math"
	"reflect"
	"slices"
	"sync"
	"testing"

	"confidant/api"
	"confidant/deck"
	"confidant/future"
)

// scramble yields numbers: the same ones in every run.
func scramble(seed uint64) func(n int) int {
	return func(n int) int {
		seed = seed*6364136223846793005 + 1442695040888963407
		return int(seed>>33) % n
	}
}

// outside are numbers of no worker, however many there are.
func outside() []int {
	return []int{math.MinInt, math.MinInt32, -1 << 32, -1<<32 + 1, -65536, -8, -2, -1, 8, 9, 16, 255, 256, 65536, math.MaxInt32, 1 << 32, 1<<32 + 1, math.MaxInt}
}

// task has different values everywhere; worker is its Worker.
func task(id int32, worker int) api.Task {
	n := int(id)
	return api.Task{
		Id: id, Func: n + 1, Pc: n + 2, Stack: []int32{id, id + 1}, Vars: [api.Locals]int32{id + 3, id + 4, id + 5, id + 6},
		Label: n + 7, Clear: n + 8, Privs: uint32(n + 9), Worker: worker,
	}
}

// equal goes by the language's own comparison, but for empty stacks.
func equal(a, b api.Task) bool {
	if len(a.Stack) == 0 && len(b.Stack) == 0 {
		a.Stack, b.Stack = nil, nil
	}
	return reflect.DeepEqual(a, b)
}

func equalAll(a, b []api.Task) bool {
	return slices.EqualFunc(a, b, equal)
}

// pushes adds tasks with these identities to the ring of a worker, which must have room for them.
func pushes(t *testing.T, d *deck.Deck, w int, ids ...int32) {
	t.Helper()
	for _, id := range ids {
		room := d.Room(w)
		if !d.Push(w, task(id, 70)) || d.Room(w) != room-1 {
			t.Errorf("Push(%d) of task %d: Room went from %d to %d", w, id, room, d.Room(w))
		}
	}
}

// holds asks what a worker holds.
func holds(t *testing.T, d *deck.Deck, w int, want api.Task) {
	t.Helper()
	if got, ok := d.Held(w); !equal(got, want) || !ok {
		t.Errorf("Held(%d): %v, %v; want %v", w, got, ok, want)
	}
}

func holdsNone(t *testing.T, d *deck.Deck, w int) {
	t.Helper()
	if got, ok := d.Held(w); !equal(got, api.Task{}) || ok {
		t.Errorf("Held(%d): %v, %v; want none", w, got, ok)
	}
}

// finds asks for a task that is taken up, and for the events.
func finds(t *testing.T, d *deck.Deck, w, round int, id int32, events ...api.Event) {
	t.Helper()
	live := d.Live()
	got, l, ok := d.Find(w, round)
	if !equal(got, task(id, w)) || !slices.Equal(l, events) || !ok {
		t.Errorf("Find(%d, %d): %v, %v, %v; want task %d, %v", w, round, got, l, ok, id, events)
	}
	holds(t, d, w, task(id, w))
	if d.Live() != live {
		t.Errorf("Live went from %d to %d", live, d.Live())
	}
}

// findsNone asks for no task, and for the events.
func findsNone(t *testing.T, d *deck.Deck, w, round int, events ...api.Event) {
	t.Helper()
	held, had := d.Held(w)
	if got, l, ok := d.Find(w, round); !equal(got, api.Task{}) || !slices.Equal(l, events) || ok {
		t.Errorf("Find(%d, %d): %v, %v, %v; want none, %v", w, round, got, l, ok, events)
	}
	if after, has := d.Held(w); !equal(after, held) || has != had {
		t.Errorf("Held(%d) was %v, %v; it is %v, %v", w, held, had, after, has)
	}
}

// empties takes from the ring of worker w these tasks, the one at the bottom first; then it is empty, if no choice is left.
func empties(t *testing.T, d *deck.Deck, w int, ids ...int32) {
	t.Helper()
	for _, id := range ids {
		got, _, ok := d.Find(w, 0)
		if got.Id != id || !ok {
			t.Errorf("the ring of worker %d has task %d (%v), want %d", w, got.Id, ok, id)
		}
		d.Drop(w)
	}
}

func TestP24_1_Right(t *testing.T) {
	good := api.Part{Ring: 2, Half: true, Fuel: 3, Refs: 4, Futures: 5, Inputs: []int32{6}, Picks: []byte{7}, Seed: 8}
	right := func(want bool, change func(*api.Part)) {
		t.Helper()
		p := good
		change(&p)
		if got := deck.Right(p); got != want {
			t.Errorf("Right(%v): %v", p, got)
		}
	}
	right(true, func(*api.Part) {})
	right(true, func(p *api.Part) { *p = api.Part{Ring: 1} })
	right(false, func(p *api.Part) { *p = api.Part{} })
	right(true, func(p *api.Part) { p.Seed, p.Half = math.MaxUint64, false })
	for _, n := range []int{math.MinInt, -1 << 32, -1<<32 + 5, -65536, -1, 0, 1, 2, 32, 63, 64, 65, 128, 4095, 4096, 4097, 8192, 65536, 1<<20 - 1, 1 << 20, 1<<20 + 1, 1 << 21, 1 << 32, 1<<32 + 1, math.MaxInt} {
		right(n >= 1 && n <= 64, func(p *api.Part) { p.Ring = n })
		right(n >= 0 && n <= 1<<20, func(p *api.Part) { p.Fuel = n })
		right(n >= 0 && n <= 4096, func(p *api.Part) { p.Refs = n })
		right(n >= 0 && n <= 4096, func(p *api.Part) { p.Futures = n })
	}
	for _, n := range []int{0, 1, 63, 64, 65, 128, 1023, 1024, 1025, 5000} {
		right(n <= 64, func(p *api.Part) { p.Inputs = make([]int32, n) })
		right(n <= 1024, func(p *api.Part) { p.Picks = make([]byte, n) })
	}
}

// TestP24_1_Workers: as many as New is given, within the range; there are no others for any call.
func TestP24_1_Workers(t *testing.T) {
	for given, want := range map[int]int{math.MinInt: 1, -1 << 32: 1, -1: 1, 0: 1, 1: 1, 2: 2, 3: 3, 7: 7, 8: 8, 9: 8, 16: 8, 1 << 32: 8, 1<<32 + 1: 8, math.MaxInt: 8} {
		d := deck.New(3, given, api.Part{Ring: 5})
		for w := range want {
			if d.Room(w) != 5 {
				t.Errorf("%d workers: Room(%d) is %d", given, w, d.Room(w))
			}
			d.Hold(w, task(int32(w+1), w))
		}
		for _, w := range append(outside(), want) {
			if d.Push(w, task(1, 1)) || d.Room(w) != 0 {
				t.Errorf("%d workers: Push(%d) or Room", given, w)
			}
			d.Hold(w, task(99, w))
			d.Drop(w)
			holdsNone(t, d, w)
			findsNone(t, d, w, 1)
		}
		if d.Live() != want {
			t.Errorf("%d workers: Live is %d", given, d.Live())
		}
		for w := range want {
			holds(t, d, w, task(int32(w+1), w))
		}
		d.Push(want-1, task(50, 0))
		for _, w := range append(outside(), want) {
			findsNone(t, d, w, 1)
		}
	}
}

func TestP24_1_Rings(t *testing.T) {
	for given, want := range map[int]int{math.MinInt: 1, -1: 1, 0: 1, 1: 1, 2: 2, 5: 5, 63: 63, 64: 64, 65: 64, 1 << 32: 64, math.MaxInt: 64} {
		d := deck.New(0, 2, api.Part{Ring: given})
		for n := range want {
			pushes(t, d, 1, int32(n))
		}
		if d.Room(1) != 0 || d.Push(1, task(99, 0)) || d.Room(0) != want || d.Live() != want {
			t.Errorf("ring %d: Room %d, %d, Live %d", given, d.Room(1), d.Room(0), d.Live())
		}
		empties(t, d, 1, byDown(want)...)
	}
}

// byDown are the identities less than n, the greatest first.
func byDown(n int) []int32 {
	var out []int32
	for n > 0 {
		n--
		out = append(out, int32(n))
	}
	return out
}

func TestP24_1_Fuel(t *testing.T) {
	for given, want := range map[int]int{math.MinInt: 0, -1: 0, 0: 0, 1: 1, 2: 2, 50: 50} {
		d := deck.New(0, 1, api.Part{Fuel: given})
		for left := want; left > 0; left-- {
			if d.Fuel() != left || !d.Burn() {
				t.Errorf("fuel %d: %d left, want %d", given, d.Fuel(), left)
			}
		}
		for range 3 {
			if d.Burn() || d.Fuel() != 0 {
				t.Errorf("fuel %d: Burn true, or %d left", given, d.Fuel())
			}
		}
	}
	for _, given := range []int{1 << 20, 1<<20 + 1, 1 << 40, math.MaxInt} {
		d := deck.New(0, 1, api.Part{Fuel: given})
		if d.Fuel() != given || !d.Burn() || d.Fuel() != given-1 {
			t.Errorf("fuel %d: %d left behind one Burn", given, d.Fuel())
		}
	}
}

func TestP24_1_Hold(t *testing.T) {
	d := deck.New(0, 3, api.Part{Ring: 2})
	holdsNone(t, d, 1)
	d.Drop(1)
	d.Hold(1, task(5, 9))
	holds(t, d, 1, task(5, 9))
	holdsNone(t, d, 0)
	holdsNone(t, d, 2)
	d.Hold(2, task(0, -1))
	d.Hold(1, task(6, 1))
	holds(t, d, 1, task(6, 1))
	if d.Live() != 2 {
		t.Errorf("Live: %d", d.Live())
	}
	d.Drop(1)
	holdsNone(t, d, 1)
	holds(t, d, 2, task(0, -1))
	d.Hold(0, api.Task{})
	holds(t, d, 0, api.Task{})
	if d.Live() != 2 || d.Room(0) != 2 || d.Room(1) != 2 {
		t.Errorf("Live: %d; Room: %d, %d", d.Live(), d.Room(0), d.Room(1))
	}
}

// TestP24_1_Live: tasks count wherever they are.
func TestP24_1_Live(t *testing.T) {
	f := future.New(1)
	id, _ := f.Make(0, 0)
	d := deck.New(0, 2, api.Part{Ring: 3, Fuel: 100})
	live := func(want int) {
		t.Helper()
		if got := d.Live(); got != want {
			t.Errorf("Live: %d, want %d", got, want)
		}
	}
	live(0)
	pushes(t, d, 0, 1, 2)
	pushes(t, d, 1, 3)
	live(3)
	d.Come(5, task(4, 0))
	d.Come(5, task(5, 1))
	live(5)
	d.Wait(task(6, 0), id)
	live(6)
	d.Hold(1, task(7, 1))
	live(7)
	d.Find(0, 1)
	live(7)
	d.Drop(0)
	live(6)
	d.Enter(6)
	live(6)
	d.Wake(f, 6)
	live(6)
	f.Keep(id, 1)
	d.Wake(f, 6)
	live(6)
	d.Drop(1)
	live(5)
	empties(t, d, 1, 5, 3)
	live(3)
	empties(t, d, 0, 6, 4, 1)
	live(0)
}

func enter(round, label, worker int, id int32) api.Event {
	return api.Event{Round: round, Label: label, Kind: api.EvEnter, Worker: worker, Task: id}
}

// TestP24_2_Enter: by round and identity, to the rings of the tasks' workers.
func TestP24_2_Enter(t *testing.T) {
	d := deck.New(6, 3, api.Part{Ring: 4})
	if events, full := d.Enter(1); len(events) != 0 || len(full) != 0 {
		t.Errorf("Enter of nothing: %v, %v", events, full)
	}
	for _, c := range []struct{ round, id, worker int }{{8, 5, 1}, {7, 9, 0}, {8, 2, 1}, {7, 3, 2}, {9, 1, 1}} {
		d.Come(c.round, task(int32(c.id), c.worker))
	}
	events, full := d.Enter(20)
	if want := []api.Event{enter(20, 6, 2, 3), enter(20, 6, 0, 9), enter(20, 6, 1, 2), enter(20, 6, 1, 5), enter(20, 6, 1, 1)}; !slices.Equal(events, want) || len(full) != 0 {
		t.Errorf("Enter: %v, %v; want %v", events, full, want)
	}
	if events, full := d.Enter(21); len(events) != 0 || len(full) != 0 {
		t.Errorf("Enter again: %v, %v", events, full)
	}
	empties(t, d, 0, 9)
	empties(t, d, 1, 1, 5, 2)
	empties(t, d, 2, 3)
}

// TestP24_2_EnterFull: those that do not fit are no longer there; each has its event.
func TestP24_2_EnterFull(t *testing.T) {
	d := deck.New(-3, 2, api.Part{Ring: 2})
	pushes(t, d, 1, 30)
	for id := range int32(6) {
		d.Come(1, task(id, int(id)%2))
	}
	events, full := d.Enter(-4)
	var want []api.Event
	for id := range int32(6) {
		want = append(want, enter(-4, -3, int(id)%2, id))
	}
	if !slices.Equal(events, want) || !equalAll(full, []api.Task{task(3, 1), task(4, 0), task(5, 1)}) {
		t.Errorf("Enter: %v, %v", events, full)
	}
	if d.Live() != 4 || d.Room(0) != 0 || d.Room(1) != 0 {
		t.Errorf("Live: %d; Room: %d, %d", d.Live(), d.Room(0), d.Room(1))
	}
	empties(t, d, 0, 2, 0)
	empties(t, d, 1, 1, 30)
}

// TestP24_2_NoSuchWorker: such tasks enter and wake at worker 0, but keep their Worker until they are taken up.
func TestP24_2_NoSuchWorker(t *testing.T) {
	f := future.New(1)
	f.Make(0, 0)
	f.Keep(0, 5)
	for _, w := range append(outside(), 3) {
		d := deck.New(2, 3, api.Part{Ring: 1, Fuel: 9})
		d.Come(1, task(4, w))
		d.Come(1, task(5, w))
		events, full := d.Enter(7)
		if !slices.Equal(events, []api.Event{enter(7, 2, w, 4), enter(7, 2, w, 5)}) || !equalAll(full, []api.Task{task(5, w)}) {
			t.Errorf("Enter with worker %d: %v, %v", w, events, full)
		}
		empties(t, d, 0, 4)
		d.Wait(task(6, w), 0)
		d.Wait(task(7, w), 0)
		events, full, starved := d.Wake(f, 8)
		if !slices.Equal(events, []api.Event{{Round: 8, Label: 2, Kind: api.EvWake, Worker: w, Task: 6}, {Round: 8, Label: 2, Kind: api.EvWake, Worker: w, Task: 7}}) || !equalAll(full, []api.Task{task(7, w)}) || len(starved) != 0 {
			t.Errorf("Wake with worker %d: %v, %v, %v", w, events, full, starved)
		}
		finds(t, d, 0, 9, 6, api.Event{Round: 9, Label: 2, Kind: api.EvTake, Task: 6})
	}
}

func TestP24_2_Wake(t *testing.T) {
	f := future.New(4)
	for range 4 {
		f.Make(0, 0)
	}
	f.Keep(1, 0)
	f.Break(2, api.ErrDiv)
	wakes := func(d *deck.Deck, round int, events []api.Event, full, starved []api.Task, left int) {
		t.Helper()
		a, b, c := d.Wake(f, round)
		if !slices.Equal(a, events) || !equalAll(b, full) || !equalAll(c, starved) || d.Fuel() != left {
			t.Errorf("Wake: %v, %v, %v, and fuel %d; want %v, %v, %v, %d", a, b, c, d.Fuel(), events, full, starved, left)
		}
	}
	wake := func(round, worker int, id int32) api.Event {
		return api.Event{Round: round, Label: 9, Kind: api.EvWake, Worker: worker, Task: id}
	}
	d := deck.New(9, 2, api.Part{Ring: 2, Fuel: 12})
	wakes(d, 1, nil, nil, nil, 12)
	d.Wait(task(40, 1), 0)
	d.Wait(task(39, 1), 1)
	d.Wait(task(38, 0), 2)
	d.Wait(task(37, 0), 99)
	d.Wait(task(36, 1), 2)
	d.Wait(task(35, 1), 1)
	wakes(d, 5, []api.Event{wake(5, 1, 39), wake(5, 0, 38), wake(5, 1, 36), wake(5, 1, 35)}, []api.Task{task(35, 1)}, nil, 6)
	if d.Live() != 5 {
		t.Errorf("Live: %d", d.Live())
	}
	wakes(d, 6, nil, nil, nil, 4)
	d.Wait(task(34, 0), 1)
	d.Wait(task(33, 0), 3)
	d.Wait(task(32, 0), 1)
	d.Wait(task(31, 1), 3)
	wakes(d, 7, []api.Event{wake(7, 0, 34)}, nil, []api.Task{task(32, 0), task(31, 1)}, 0)
	wakes(d, 8, nil, nil, []api.Task{task(40, 1), task(37, 0), task(33, 0)}, 0)
	wakes(d, 9, nil, nil, nil, 0)
	empties(t, d, 0, 34, 38)
	empties(t, d, 1, 36, 39)
	if d.Live() != 0 {
		t.Errorf("Live: %d", d.Live())
	}
}

// TestP24_2_WakeWithoutFutures: a nil Futures has none.
func TestP24_2_WakeWithoutFutures(t *testing.T) {
	d := deck.New(0, 1, api.Part{Ring: 2, Fuel: 1})
	d.Wait(task(1, 0), 0)
	d.Wait(task(2, 0), 0)
	if events, full, starved := d.Wake(nil, 0); len(events) != 0 || len(full) != 0 || !equalAll(starved, []api.Task{task(2, 0)}) || d.Fuel() != 0 || d.Live() != 1 {
		t.Errorf("Wake: %v, %v, %v; fuel %d, Live %d", events, full, starved, d.Fuel(), d.Live())
	}
}

func take(round, label, worker int, id int32) api.Event {
	return api.Event{Round: round, Label: label, Kind: api.EvTake, Worker: worker, Task: id}
}

func miss(round, label, worker, from int) api.Event {
	return api.Event{Round: round, Label: label, Kind: api.EvMiss, Worker: worker, A: int32(from)}
}

func steal(round, label, worker, from int, id int32, n int) api.Event {
	return api.Event{Round: round, Label: label, Kind: api.EvSteal, Worker: worker, Task: id, A: int32(from), B: int32(n)}
}

// TestP24_3_OwnRing: the newest task first, without a choice.
func TestP24_3_OwnRing(t *testing.T) {
	d := deck.New(4, 2, api.Part{Ring: 3, Picks: []byte{0, 1}})
	pushes(t, d, 1, 10, 11, 12)
	pushes(t, d, 0, 13)
	finds(t, d, 1, 8, 12, take(8, 4, 1, 12))
	d.Drop(1)
	finds(t, d, 1, 9, 11, take(9, 4, 1, 11))
	d.Drop(1)
	finds(t, d, 0, 9, 13, take(9, 4, 0, 13))
	d.Drop(0)
	finds(t, d, 1, 10, 10, take(10, 4, 1, 10))
	d.Drop(1)
	pushes(t, d, 0, 14)
	// a miss, if a choice had been used up before
	finds(t, d, 1, 11, 14, steal(11, 4, 1, 0, 14, 1), take(11, 4, 1, 14))
}

// TestP24_3_AllEmpty: no choice is used up, whatever is held, arrives or waits.
func TestP24_3_AllEmpty(t *testing.T) {
	d := deck.New(4, 3, api.Part{Ring: 3, Picks: []byte{2, 1}})
	for w := range 3 {
		findsNone(t, d, w, 1)
	}
	d.Hold(1, task(5, 1))
	d.Come(1, task(6, 0))
	d.Wait(task(7, 0), 0)
	for w := range 3 {
		if w != 1 {
			findsNone(t, d, w, 1)
		}
	}
	pushes(t, d, 2, 20)
	finds(t, d, 0, 2, 20, steal(2, 4, 0, 2, 20, 1), take(2, 4, 0, 20))
}

func TestP24_3_Misses(t *testing.T) {
	d := deck.New(7, 4, api.Part{Ring: 5, Picks: []byte{0, 1, 5, 2, 4, 255, 2}})
	pushes(t, d, 2, 30, 31, 32)
	findsNone(t, d, 0, 1, miss(1, 7, 0, 0))
	findsNone(t, d, 0, 2, miss(2, 7, 0, 1))
	findsNone(t, d, 0, 3, miss(3, 7, 0, 1))
	finds(t, d, 1, 4, 30, steal(4, 7, 1, 2, 30, 1), take(4, 7, 1, 30))
	findsNone(t, d, 3, 5, miss(5, 7, 3, 0))
	findsNone(t, d, 3, 5, miss(5, 7, 3, 3))
	finds(t, d, 3, 6, 31, steal(6, 7, 3, 2, 31, 1), take(6, 7, 3, 31))
	if d.Room(1) != 5 || d.Room(3) != 5 || d.Room(2) != 4 {
		t.Errorf("Room: %d, %d, %d", d.Room(1), d.Room(3), d.Room(2))
	}
	empties(t, d, 2, 32)
}

// TestP24_3_Half: of each number of tasks; the first of them is taken up, the others stand in the ring of the thief.
func TestP24_3_Half(t *testing.T) {
	for n := 1; n <= 64; n++ {
		for _, half := range []bool{false, true} {
			d := deck.New(1, 2, api.Part{Ring: 64, Half: half, Picks: []byte{0}})
			for id := range n {
				pushes(t, d, 0, int32(id+100))
			}
			stolen := 1
			if half {
				stolen = (n + 1) / 2
			}
			finds(t, d, 1, 5, 100, steal(5, 1, 1, 0, 100, stolen), take(5, 1, 1, 100))
			if d.Room(1) != 64-stolen+1 || d.Room(0) != 64-n+stolen {
				t.Errorf("%d tasks: Room %d, %d", n, d.Room(1), d.Room(0))
			}
			d.Drop(1)
			for id := stolen - 1; id > 0; id-- {
				finds(t, d, 1, 6, int32(id+100), take(6, 1, 1, int32(id+100)))
				d.Drop(1)
			}
			for id := n - 1; id >= stolen; id-- {
				finds(t, d, 0, 6, int32(id+100), take(6, 1, 0, int32(id+100)))
				d.Drop(0)
			}
			if d.Live() != 0 {
				t.Errorf("%d tasks: Live is %d in the end", n, d.Live())
			}
		}
	}
}

// TestP24_3_Half_StolenAgain: what a thief has put into its ring can be stolen from the top of that.
func TestP24_3_Half_StolenAgain(t *testing.T) {
	d := deck.New(1, 3, api.Part{Ring: 8, Half: true, Picks: []byte{0, 1}})
	pushes(t, d, 0, 1, 2, 3, 4, 5, 6, 7)
	finds(t, d, 1, 1, 1, steal(1, 1, 1, 0, 1, 4), take(1, 1, 1, 1))
	finds(t, d, 2, 1, 2, steal(1, 1, 2, 1, 2, 2), take(1, 1, 2, 2))
	d.Drop(1)
	d.Drop(2)
	finds(t, d, 1, 2, 4, take(2, 1, 1, 4))
	finds(t, d, 2, 2, 3, take(2, 1, 2, 3))
	finds(t, d, 0, 2, 7, take(2, 1, 0, 7))
}

// TestP24_3_Seed: behind the given choices come those of the generator: 1082269761, 1152992998833853505, 11177516664432764457 modulo 3 and so on.
func TestP24_3_Seed(t *testing.T) {
	for _, picks := range [][]byte{nil, {2, 2}} {
		d := deck.New(0, 3, api.Part{Ring: 9, Picks: picks, Seed: 1})
		pushes(t, d, 1, 1, 2, 3, 4, 5, 6, 7, 8, 9)
		for range picks {
			findsNone(t, d, 0, 1, miss(1, 0, 0, 2))
		}
		s, id := uint64(1), int32(1)
		for range 30 {
			s ^= s << 13
			s ^= s >> 7
			s ^= s << 17
			v := int(s % 3)
			if id == 10 {
				findsNone(t, d, 0, 1)
				break
			}
			if v != 1 {
				findsNone(t, d, 0, 1, miss(1, 0, 0, v))
				continue
			}
			finds(t, d, 0, 1, id, steal(1, 0, 0, 1, id, 1), take(1, 0, 0, id))
			d.Drop(0)
			id++
		}
		if id < 5 {
			t.Errorf("only %d tasks stolen", id-1)
		}
	}
}

// TestP24_3_AlreadyHolding: Find takes up a task all the same; the one before is held no longer.
func TestP24_3_AlreadyHolding(t *testing.T) {
	d := deck.New(0, 2, api.Part{Ring: 2, Picks: []byte{0, 1}})
	d.Hold(0, task(1, 0))
	d.Hold(1, task(2, 1))
	findsNone(t, d, 0, 1)
	pushes(t, d, 1, 3)
	findsNone(t, d, 0, 1, miss(1, 0, 0, 0))
	if got, events, ok := d.Find(0, 1); got.Id != 3 || len(events) != 2 || !ok {
		t.Errorf("Find: %v, %v, %v", got, events, ok)
	}
	holds(t, d, 0, task(3, 0))
	holds(t, d, 1, task(2, 1))
	if d.Live() != 2 {
		t.Errorf("Live: %d", d.Live())
	}
}

// TestP24_1_NothingShared: what happens to a task or a part that went in, or to a task that came out, is of no account for the deck.
func TestP24_1_NothingShared(t *testing.T) {
	spoil := func(l ...api.Task) {
		for _, x := range l {
			whole := x.Stack[:cap(x.Stack)]
			for n := range whole {
				whole[n] = 77
			}
		}
	}
	f := future.New(1)
	f.Make(0, 0)
	f.Keep(0, 1)
	choices := []byte{0, 0, 0, 1}
	d := deck.New(0, 2, api.Part{Ring: 9, Half: true, Fuel: 9, Picks: choices[:3]})
	clear(choices[1:])
	choices[0] = 1
	given := []api.Task{task(10, 0), task(20, 0), task(30, 0), task(40, 1)}
	d.Push(0, given[0])
	d.Come(1, given[1])
	d.Wait(given[2], 0)
	d.Hold(1, given[3])
	if !equalAll(given, []api.Task{task(10, 0), task(20, 0), task(30, 0), task(40, 1)}) {
		t.Errorf("the tasks are now %v", given)
	}
	spoil(given...)
	held, _ := d.Held(1)
	spoil(held)
	holds(t, d, 1, task(40, 1))
	d.Enter(1)
	d.Wake(f, 1)
	stolen, _, _ := d.Find(1, 1)
	spoil(stolen)
	holds(t, d, 1, task(10, 1))
	d.Drop(1)
	popped, _, _ := d.Find(1, 1)
	spoil(popped)
	holds(t, d, 1, task(20, 1))
	finds(t, d, 0, 1, 30, take(1, 0, 0, 30))
	small := deck.New(0, 1, api.Part{Ring: 1, Fuel: 9})
	for id := range int32(3) {
		small.Come(1, task(id, 0))
		small.Wait(task(id+10, 0), 0)
		small.Wait(task(id+20, 0), 1)
	}
	_, full := small.Enter(1)
	spoil(full...)
	_, full, _ = small.Wake(f, 1)
	spoil(full...)
	finds(t, small, 0, 1, 0, take(1, 0, 0, 0))
}

// TestP24_4_Independent: decks have nothing in common, in one goroutine or in several.
func TestP24_4_Independent(t *testing.T) {
	part := api.Part{Ring: 3, Fuel: 3, Picks: []byte{1, 0}}
	a, b := deck.New(1, 2, part), deck.New(2, 2, part)
	pushes(t, a, 1, 5)
	finds(t, a, 0, 1, 5, steal(1, 1, 0, 1, 5, 1), take(1, 1, 0, 5))
	a.Burn()
	a.Come(1, task(6, 0))
	if b.Live() != 0 || b.Fuel() != 3 || b.Room(0) != 3 {
		t.Errorf("Live %d, fuel %d, Room %d", b.Live(), b.Fuel(), b.Room(0))
	}
	pushes(t, b, 1, 7)
	finds(t, b, 0, 1, 7, steal(1, 2, 0, 1, 7, 1), take(1, 2, 0, 7))
	holds(t, a, 0, task(5, 0))
	var all sync.WaitGroup
	for g := range 8 {
		all.Go(func() {
			d := deck.New(g, 2, api.Part{Ring: 64, Picks: make([]byte, 50)})
			for id := range int32(50) {
				pushes(t, d, 0, id)
			}
			for id := range int32(50) {
				finds(t, d, 1, 3, id, steal(3, g, 1, 0, id, 1), take(3, g, 1, id))
				d.Drop(1)
			}
		})
	}
	all.Wait()
}
