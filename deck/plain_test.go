package deck_test

import (
	"slices"
	"sort"
	"testing"

	"confidant/api"
	"confidant/deck"
	"confidant/future"
)

// plain is a deck as the chapter tells it, with lists for everything; the top of a ring comes first.
type plain struct {
	label    int
	part     api.Part
	rings    [][]api.Task
	held     map[int]api.Task
	arriving []arrival
	waiting  []waiter
	fuel     int
	seed     uint64
}

type arrival struct {
	round int
	task  api.Task
}

type waiter struct {
	task api.Task
	id   int32
}

func newPlain(label, workers int, part api.Part) *plain {
	part.Picks = slices.Clone(part.Picks)
	return &plain{label: label, part: part, rings: make([][]api.Task, workers), held: map[int]api.Task{}, fuel: part.Fuel, seed: part.Seed}
}

func (p *plain) choice() int {
	n := len(p.rings)
	if len(p.part.Picks) > 0 {
		v := int(p.part.Picks[0]) % n
		p.part.Picks = p.part.Picks[1:]
		return v
	}
	if p.seed == 0 {
		p.seed = 1
	}
	p.seed ^= p.seed << 13
	p.seed ^= p.seed >> 7
	p.seed ^= p.seed << 17
	return int(p.seed % uint64(n))
}

func (p *plain) push(w int, t api.Task) bool {
	if w < 0 || w >= len(p.rings) || len(p.rings[w]) == p.part.Ring {
		return false
	}
	p.rings[w] = append(slices.Clone(p.rings[w]), t)
	return true
}

func (p *plain) event(kind, round, w int, id int32, a, b int) api.Event {
	return api.Event{Round: round, Label: p.label, Kind: kind, Worker: w, Task: id, A: int32(a), B: int32(b)}
}

func (p *plain) admit(kind, round int, l []api.Task) (events []api.Event, full []api.Task) {
	for _, t := range l {
		events = append(events, p.event(kind, round, t.Worker, t.Id, 0, 0))
		w := t.Worker
		if w < 0 || w >= len(p.rings) {
			w = 0
		}
		if !p.push(w, t) {
			full = append(full, t)
		}
	}
	return events, full
}

func (p *plain) enter(round int) ([]api.Event, []api.Task) {
	sort.SliceStable(p.arriving, func(i, j int) bool {
		a, b := p.arriving[i], p.arriving[j]
		return a.round < b.round || a.round == b.round && a.task.Id < b.task.Id
	})
	var l []api.Task
	for _, a := range p.arriving {
		l = append(l, a.task)
	}
	p.arriving = nil
	return p.admit(api.EvEnter, round, l)
}

func (p *plain) wake(settled map[int32]bool, round int) ([]api.Event, []api.Task, []api.Task) {
	var woken, starved []api.Task
	var stay []waiter
	for _, w := range p.waiting {
		if p.fuel == 0 {
			starved = append(starved, w.task)
			continue
		}
		p.fuel--
		if settled[w.id] {
			woken = append(woken, w.task)
		} else {
			stay = append(stay, w)
		}
	}
	p.waiting = stay
	events, full := p.admit(api.EvWake, round, woken)
	return events, full, starved
}

func (p *plain) find(w, round int) (api.Task, []api.Event, bool) {
	if w < 0 || w >= len(p.rings) {
		return api.Task{}, nil, false
	}
	takeUp := func(t api.Task, before ...api.Event) (api.Task, []api.Event, bool) {
		t.Worker = w
		p.held[w] = t
		return t, append(before, p.event(api.EvTake, round, w, t.Id, 0, 0)), true
	}
	if n := len(p.rings[w]); n > 0 {
		t := p.rings[w][n-1]
		p.rings[w] = p.rings[w][:n-1]
		return takeUp(t)
	}
	if p.inRings() == 0 {
		return api.Task{}, nil, false
	}
	v := p.choice()
	if v == w || len(p.rings[v]) == 0 {
		return api.Task{}, []api.Event{p.event(api.EvMiss, round, w, 0, v, 0)}, false
	}
	n := 1
	if p.part.Half {
		n = (len(p.rings[v]) + 1) / 2
	}
	stolen := p.rings[v][:n]
	p.rings[v] = p.rings[v][n:]
	for _, t := range stolen[1:] {
		t.Worker = w
		p.push(w, t)
	}
	return takeUp(stolen[0], p.event(api.EvSteal, round, w, stolen[0].Id, v, n))
}

func (p *plain) inRings() int {
	n := 0
	for _, r := range p.rings {
		n += len(r)
	}
	return n
}

// pair is a deck and what it must be like; settled are the futures that are not Open.
type pair struct {
	d       *deck.Deck
	p       *plain
	f       *future.Futures
	settled map[int32]bool
	next    func(n int) int
	made    int32
}

// newTask has a Worker that may not exist.
func (x *pair) newTask() api.Task {
	x.made++
	t := task(x.made*7919%500, x.next(len(x.p.rings)+2)-1)
	t.Pc = int(x.made)
	return t
}

func (x *pair) call(t *testing.T, round int) {
	t.Helper()
	w := x.next(len(x.p.rings)+2) - 1
	switch x.next(12) {
	case 0, 1:
		one := x.newTask()
		want := x.p.push(w, one)
		if got := x.d.Push(w, one); got != want {
			t.Fatalf("Push(%d): %v", w, got)
		}
	case 2:
		one := x.newTask()
		came := round - x.next(4)
		x.p.arriving = append(x.p.arriving, arrival{came, one})
		x.d.Come(came, one)
	case 3:
		one, id := x.newTask(), int32(x.next(9))
		x.p.waiting = append(x.p.waiting, waiter{one, id})
		x.d.Wait(one, id)
	case 4:
		want := x.p.fuel > 0
		x.p.fuel = max(0, x.p.fuel-1)
		if got := x.d.Burn(); got != want {
			t.Fatalf("Burn: %v", got)
		}
	case 5:
		events, full := x.p.enter(round)
		if a, b := x.d.Enter(round); !slices.Equal(a, events) || !equalAll(b, full) {
			t.Fatalf("Enter: %v, %v; want %v, %v", a, b, events, full)
		}
	case 6:
		events, full, starved := x.p.wake(x.settled, round)
		if a, b, c := x.d.Wake(x.f, round); !slices.Equal(a, events) || !equalAll(b, full) || !equalAll(c, starved) {
			t.Fatalf("Wake: %v, %v, %v; want %v, %v, %v", a, b, c, events, full, starved)
		}
	case 7:
		if w >= 0 && w < len(x.p.rings) {
			delete(x.p.held, w)
		}
		x.d.Drop(w)
	case 8:
		id := int32(x.next(9))
		x.settled[id] = x.f.Keep(id, 1) || x.settled[id]
	case 9:
		one := x.newTask()
		if w >= 0 && w < len(x.p.rings) {
			x.p.held[w] = one
		}
		x.d.Hold(w, one)
	default:
		one, events, ok := x.p.find(w, round)
		if a, b, c := x.d.Find(w, round); !equal(a, one) || !slices.Equal(b, events) || c != ok {
			t.Fatalf("Find(%d): %v, %v, %v; want %v, %v, %v", w, a, b, c, one, events, ok)
		}
	}
}

// is asks for everything that can be seen without a change.
func (x *pair) is(t *testing.T) {
	t.Helper()
	live := x.p.inRings() + len(x.p.held) + len(x.p.arriving) + len(x.p.waiting)
	if x.d.Live() != live || x.d.Fuel() != x.p.fuel {
		t.Fatalf("Live %d, fuel %d; want %d, %d", x.d.Live(), x.d.Fuel(), live, x.p.fuel)
	}
	for w, r := range x.p.rings {
		if got := x.d.Room(w); got != x.p.part.Ring-len(r) {
			t.Fatalf("Room(%d): %d, want %d", w, got, x.p.part.Ring-len(r))
		}
		want, wantOk := x.p.held[w]
		if got, ok := x.d.Held(w); !equal(got, want) || ok != wantOk {
			t.Fatalf("Held(%d): %v, %v; want %v, %v", w, got, ok, want, wantOk)
		}
	}
}

func TestP24_1_RandomCalls(t *testing.T) {
	next := scramble(24)
	for n := range 400 {
		part := api.Part{Ring: 1 + next(6), Half: next(2) == 0, Fuel: next(60), Seed: uint64(next(3))}
		for range next(20) {
			part.Picks = append(part.Picks, byte(next(256)))
		}
		label, workers := next(20)-2, 1+next(8)
		x := &pair{d: deck.New(label, workers, part), p: newPlain(label, workers, part), f: future.New(9), settled: map[int32]bool{}, next: scramble(uint64(n))}
		for range 9 {
			x.f.Make(0, 0)
		}
		for round := range 120 {
			x.call(t, round)
			x.is(t)
		}
	}
}
