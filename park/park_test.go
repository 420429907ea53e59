package park_test

import (
	"math"
	"reflect"
	"slices"
	"sync"
	"testing"

	"confidant/api"
	"confidant/future"
	"confidant/park"
)

// someTask has different values everywhere.
func someTask(n int) api.Task {
	id := int32(n)
	return api.Task{
		Id: id, Func: n + 1, Pc: n + 2, Stack: []int32{id, id + 1}, Vars: [api.Locals]int32{id + 3, id + 4, id + 5, id + 6},
		Label: n + 7, Clear: n + 8, Privs: uint32(n + 9), Worker: n + 10,
	}
}

// someTasks are those with these numbers.
func someTasks(numbers ...int) []api.Task {
	var out []api.Task
	for _, n := range numbers {
		out = append(out, someTask(n))
	}
	return out
}

// equal goes by the language's own comparison, but for empty stacks.
func equal(a, b api.Task) bool {
	if len(a.Stack) == 0 && len(b.Stack) == 0 {
		a.Stack, b.Stack = nil, nil
	}
	return reflect.DeepEqual(a, b)
}

func equalAll(a, b []api.Task) bool {
	return slices.EqualFunc(a, b, equal)
}

func equalWaiting(a, b park.Waiting) bool {
	return a.Future == b.Future && equal(a.Task, b.Task)
}

// waits is task n, waiting for a future.
func waits(n int, id int32) park.Waiting {
	return park.Waiting{Task: someTask(n), Future: id}
}

// parked is a park to which these were added in this order.
func parked(l ...park.Waiting) *park.Park {
	p := park.New()
	for _, w := range l {
		p.Add(w.Task, w.Future)
	}
	return p
}

// is asks for everything that can be seen without a change.
func is(t *testing.T, p *park.Park, want ...park.Waiting) {
	t.Helper()
	if got := p.All(); p.Len() != len(want) || !slices.EqualFunc(got, want, equalWaiting) {
		t.Errorf("Len %d, All %v; want %d, %v", p.Len(), got, len(want), want)
	}
}

// looks asks for one Look.
func looks(t *testing.T, p *park.Park, f *future.Futures, fuel int, woken, starved []api.Task, left int) {
	t.Helper()
	a, b, n := p.Look(f, fuel)
	if !equalAll(a, woken) || !equalAll(b, starved) || n != left {
		t.Errorf("Look with fuel %d: woken %v, starved %v, left %d; want %v, %v, %d", fuel, a, b, n, woken, starved, left)
	}
}

// Identities of the futures of someFutures, and of some that are none of them.
const (
	open     = 0
	kept     = 1
	broken   = 2
	nought   = 65536 // Kept with value 0
	harmless = 65537 // Broken with code OK
	another  = 65538 // Open
)

// absent are identities of no future.
func absent() []int32 {
	return []int32{math.MinInt32, -65536, -2, -1, 3, 4, 65535, 65539, 131072, 131073, 15 << 16, 16 << 16, math.MaxInt32}
}

func someFutures(t *testing.T) *future.Futures {
	t.Helper()
	f := future.New(3, 3, 3)
	for n := range 6 {
		f.Make(n/3, 5)
	}
	if !f.Keep(kept, 7) || !f.Break(broken, api.ErrDiv) || !f.Keep(nought, 0) || !f.Break(harmless, api.OK) {
		t.Fatal("no such futures")
	}
	return f
}

func TestP20_1_Empty(t *testing.T) {
	p := park.New()
	is(t, p)
	for _, f := range []*future.Futures{nil, future.New(), someFutures(t)} {
		for _, fuel := range []int{0, 1, 2, 1 << 20, 1 << 32, math.MaxInt} {
			looks(t, p, f, fuel, nil, nil, fuel)
		}
		for _, fuel := range []int{-1, -2, -1 << 32, math.MinInt} {
			looks(t, p, f, fuel, nil, nil, 0)
		}
	}
	is(t, p)
}

// TestP20_1_AddInOrder: in the order of the calls, whatever the tasks and the futures are, with equal ones too.
func TestP20_1_AddInOrder(t *testing.T) {
	p := park.New()
	var want []park.Waiting
	for n, id := range append([]int32{7, 7, 3, 1 << 20, 0, 0}, absent()...) {
		w := waits(50-n%4, id)
		p.Add(w.Task, w.Future)
		want = append(want, w)
		is(t, p, want...)
	}
	for _, x := range []api.Task{{}, {Id: -1, Func: -1, Pc: math.MinInt, Label: math.MaxInt, Clear: -1, Privs: math.MaxUint32, Worker: -1}, {Stack: []int32{}}, {Stack: make([]int32, 5000)}} {
		p.Add(x, -5)
		want = append(want, park.Waiting{Task: x, Future: -5})
		is(t, p, want...)
	}
}

// TestP20_1_Many: there is no limit.
func TestP20_1_Many(t *testing.T) {
	p := park.New()
	for n := range 20000 {
		p.Add(api.Task{Id: int32(n)}, -1)
	}
	woken, starved, left := p.Look(nil, 15000)
	if p.Len() != 15000 || len(woken) != 0 || len(starved) != 5000 || left != 0 {
		t.Errorf("Len %d; %d woken, %d starved, %d left", p.Len(), len(woken), len(starved), left)
	}
	for n, w := range p.All() {
		if int(w.Task.Id) != n {
			t.Fatalf("number %d is task %d", n, w.Task.Id)
		}
	}
	for n, x := range starved {
		if int(x.Id) != 15000+n {
			t.Fatalf("starved: number %d is task %d", n, x.Id)
		}
	}
}

// TestP20_1_EachState: a future wakes if it is there and is Kept or Broken, whatever with.
func TestP20_1_EachState(t *testing.T) {
	f := someFutures(t)
	for _, id := range []int32{kept, broken, nought, harmless} {
		p := parked(waits(1, id))
		looks(t, p, f, 1, someTasks(1), nil, 0)
		is(t, p)
		p = parked(waits(1, id))
		looks(t, p, f, 9, someTasks(1), nil, 8)
		is(t, p)
	}
	for _, id := range append(absent(), open, another) {
		p := parked(waits(1, id))
		looks(t, p, f, 1, nil, nil, 0)
		is(t, p, waits(1, id))
		looks(t, p, f, 9, nil, nil, 8)
		is(t, p, waits(1, id))
	}
}

// TestP20_1_NoFutures: a nil Futures has none, as one without quotas.
func TestP20_1_NoFutures(t *testing.T) {
	for _, f := range []*future.Futures{nil, future.New(), future.New(0, 0), future.New(5)} {
		for _, id := range append(absent(), open, kept, broken, another) {
			p := parked(waits(1, id), waits(2, 0))
			looks(t, p, f, 5, nil, nil, 3)
			is(t, p, waits(1, id), waits(2, 0))
			looks(t, p, f, 1, nil, someTasks(2), 0)
			is(t, p, waits(1, id))
		}
	}
}

// TestP20_1_Starved: without fuel nothing is asked of a future; less than none is none.
func TestP20_1_Starved(t *testing.T) {
	f := someFutures(t)
	for _, fuel := range []int{0, -1, -2, -3, -65536, -1 << 32, math.MinInt32, math.MinInt} {
		p := parked(waits(1, kept), waits(2, open), waits(3, broken), waits(4, -1))
		looks(t, p, f, fuel, nil, someTasks(1, 2, 3, 4), 0)
		is(t, p)
		looks(t, p, f, 3, nil, nil, 3)
	}
}

// TestP20_1_EveryFuel: each task that is examined takes one, woken or not.
func TestP20_1_EveryFuel(t *testing.T) {
	f := someFutures(t)
	all := []park.Waiting{waits(1, open), waits(2, kept), waits(3, 99), waits(4, broken), waits(5, kept), waits(6, another), waits(7, nought)}
	for fuel := range 12 {
		var woken, starved []api.Task
		var stay []park.Waiting
		for n, w := range all {
			switch {
			case n >= fuel:
				starved = append(starved, w.Task)
			case w.Future == kept || w.Future == broken || w.Future == nought:
				woken = append(woken, w.Task)
			default:
				stay = append(stay, w)
			}
		}
		p := parked(all...)
		looks(t, p, f, fuel, woken, starved, max(0, fuel-7))
		is(t, p, stay...)
	}
	p := parked(all...)
	looks(t, p, f, math.MaxInt, someTasks(2, 4, 5, 7), nil, math.MaxInt-7)
	is(t, p, waits(1, open), waits(3, 99), waits(6, another))
}

// TestP20_2_WokenLater: once the future has a result, at the next Look, and then no more.
func TestP20_2_WokenLater(t *testing.T) {
	f := future.New(2, 2)
	p := parked(waits(1, 65536), waits(2, 0), waits(3, 65536), waits(4, 1))
	looks(t, p, f, 10, nil, nil, 6)
	f.Make(1, 0)
	f.Make(0, 0)
	f.Make(0, 0)
	looks(t, p, f, 10, nil, nil, 6)
	f.Keep(65536, 5)
	looks(t, p, f, 10, someTasks(1, 3), nil, 6)
	is(t, p, waits(2, 0), waits(4, 1))
	looks(t, p, f, 10, nil, nil, 8)
	p.Add(someTask(5), 65536)
	f.Break(1, api.ErrChild)
	is(t, p, waits(2, 0), waits(4, 1), waits(5, 65536))
	looks(t, p, f, 2, someTasks(4), someTasks(5), 0)
	is(t, p, waits(2, 0))
	f.Keep(0, 0)
	looks(t, p, f, 1, someTasks(2), nil, 0)
	is(t, p)
}

// TestP20_1_FuturesStay: Look reads them only.
func TestP20_1_FuturesStay(t *testing.T) {
	f := someFutures(t)
	before := f.All()
	p := parked(waits(1, open), waits(2, kept), waits(3, broken))
	p.Look(f, 2)
	if after := f.All(); !reflect.DeepEqual(before, after) {
		t.Errorf("All: %v, want %v", after, before)
	}
}

// TestP20_1_NothingShared: what happens to a task that went in or came out is of no account for the park, nor the other way round.
func TestP20_1_NothingShared(t *testing.T) {
	spoil := func(l ...api.Task) {
		for _, x := range l {
			whole := x.Stack[:cap(x.Stack)]
			for n := range whole {
				whole[n] = 77
			}
		}
	}
	f := someFutures(t)
	whole := []int32{1, 2, 3, 901, 902}
	p := park.New()
	p.Add(api.Task{Stack: whole[:3]}, open)
	p.Add(api.Task{Stack: whole[:2]}, kept)
	p.Add(api.Task{Stack: whole[2:3]}, another)
	want := []park.Waiting{{Task: api.Task{Stack: []int32{1, 2, 3}}, Future: open}, {Task: api.Task{Stack: []int32{1, 2}}, Future: kept}, {Task: api.Task{Stack: []int32{3}}, Future: another}}
	is(t, p, want...)
	if !slices.Equal(whole, []int32{1, 2, 3, 901, 902}) {
		t.Errorf("the stacks are now %v", whole)
	}
	spoil(api.Task{Stack: whole})
	is(t, p, want...)
	for _, w := range p.All() {
		spoil(w.Task)
	}
	clear(p.All())
	_ = append(p.All()[:1], waits(9, 9))
	is(t, p, want...)
	before := p.All()
	woken, starved, _ := p.Look(f, 2)
	if !equalAll(woken, []api.Task{want[1].Task}) || !equalAll(starved, []api.Task{want[2].Task}) {
		t.Errorf("Look: %v, %v", woken, starved)
	}
	spoil(woken...)
	spoil(starved...)
	is(t, p, want[0])
	if !slices.EqualFunc(before, want, equalWaiting) {
		t.Errorf("an earlier answer of All became %v", before)
	}
	p.Add(api.Task{Stack: []int32{4}}, kept)
	is(t, p, want[0], park.Waiting{Task: api.Task{Stack: []int32{4}}, Future: kept})
}

// scramble yields numbers: the same ones in every run.
func scramble(seed uint64) func(n int) int {
	return func(n int) int {
		seed = seed*6364136223846793005 + 1442695040888963407
		return int(seed>>33) % n
	}
}

// plainLook is Look as the chapter tells it, task by task.
func plainLook(l []park.Waiting, result map[int32]bool, fuel int) (stay []park.Waiting, woken, starved []api.Task, left int) {
	for _, w := range l {
		if fuel <= 0 {
			starved = append(starved, w.Task)
			continue
		}
		fuel--
		if result[w.Future] {
			woken = append(woken, w.Task)
			continue
		}
		stay = append(stay, w)
	}
	return stay, woken, starved, max(fuel, 0)
}

func TestP20_1_RandomCalls(t *testing.T) {
	next := scramble(20)
	for range 300 {
		f, result := future.New(4, 4, 4), map[int32]bool{}
		p := park.New()
		var want []park.Waiting
		for n := range 80 {
			id := int32(next(4)<<16 + next(5))
			switch next(6) {
			case 0:
				f.Make(next(3), 1)
			case 1:
				result[id] = f.Keep(id, 1) || result[id]
			case 2:
				result[id] = f.Break(id, 1) || result[id]
			case 3:
				fuel := next(20) - 2
				stay, woken, starved, left := plainLook(want, result, fuel)
				looks(t, p, f, fuel, woken, starved, left)
				want = stay
			default:
				p.Add(someTask(n), id)
				want = append(want, waits(n, id))
			}
			is(t, p, want...)
		}
	}
}

// TestP20_1_SideBySide: parks have nothing in common, in one goroutine or in several.
func TestP20_1_SideBySide(t *testing.T) {
	f := someFutures(t)
	a, b := parked(waits(1, open)), park.New()
	is(t, b)
	b.Add(someTask(2), kept)
	is(t, a, waits(1, open))
	var all sync.WaitGroup
	for g := range 8 {
		all.Go(func() {
			p := park.New()
			var want []api.Task
			for n := range 100 {
				p.Add(someTask(n*g), kept)
				want = append(want, someTask(n*g))
			}
			looks(t, p, f, 100, want, nil, 0)
		})
	}
	all.Wait()
	is(t, a, waits(1, open))
	is(t, b, waits(2, kept))
}
