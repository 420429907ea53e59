package ring_test

import (
	"math"
	"reflect"
	"slices"
	"sync"
	"testing"

	"confidant/api"
	"confidant/ring"
	"confidant/task"
)

// someTask has different values everywhere.
func someTask(n int) api.Task {
	id := int32(n)
	return api.Task{
		Id: id, Func: n + 1, Pc: n + 2, Stack: []int32{id, id + 1}, Vars: [api.Locals]int32{id + 3, id + 4, id + 5, id + 6},
		Label: n + 7, Clear: n + 8, Privs: uint32(n + 9), Worker: n + 10,
	}
}

// someTasks are those with these numbers.
func someTasks(numbers ...int) []api.Task {
	var out []api.Task
	for _, n := range numbers {
		out = append(out, someTask(n))
	}
	return out
}

// equal goes by the language's own comparison, but for empty stacks.
func equal(a, b api.Task) bool {
	if len(a.Stack) == 0 && len(b.Stack) == 0 {
		a.Stack, b.Stack = nil, nil
	}
	return reflect.DeepEqual(a, b)
}

func equalAll(a, b []api.Task) bool {
	return slices.EqualFunc(a, b, equal)
}

// filled is a ring with tasks 1 to n, 1 at the top; shift moves its top away from where it was at first.
func filled(t *testing.T, room, n, shift int) *ring.Ring {
	t.Helper()
	r := ring.New(room)
	for range shift {
		r.Push(someTask(99))
		r.Steal()
	}
	for k := range n {
		if !r.Push(someTask(k + 1)) {
			t.Fatalf("Push of task %d of %d: false; room for %d", k+1, n, room)
		}
	}
	return r
}

// is asks for everything that can be seen without a change.
func is(t *testing.T, r *ring.Ring, room int, want ...api.Task) {
	t.Helper()
	if r.Len() != len(want) || r.Room() != room || !equalAll(r.All(), want) {
		t.Errorf("Len %d, Room %d, All %v; want %d, %d, %v", r.Len(), r.Room(), r.All(), len(want), room, want)
	}
}

// plain is a ring as the chapter tells it: a list, the top first.
type plain struct {
	room  int
	tasks []api.Task
}

func (p *plain) push(t api.Task) bool {
	if len(p.tasks) == p.room {
		return false
	}
	p.tasks = append(p.tasks, t)
	return true
}

func (p *plain) cut(from, to int) []api.Task {
	out := slices.Clone(p.tasks[from:to])
	p.tasks = slices.Delete(p.tasks, from, to)
	return out
}

// call does the same with r and p; n is the number of the next task.
func call(t *testing.T, r *ring.Ring, p *plain, kind, n int) {
	t.Helper()
	size := len(p.tasks)
	switch kind {
	case 0:
		want := p.push(someTask(n))
		if got := r.Push(someTask(n)); got != want {
			t.Fatalf("Push: %v, with %d tasks in room for %d", got, size, p.room)
		}
	case 1, 2:
		from := max(0, size-1)
		take := r.Pop
		if kind == 2 {
			from, take = 0, r.Steal
		}
		var want api.Task
		if size > 0 {
			want = p.cut(from, from+1)[0]
		}
		if got, ok := take(); !equal(got, want) || ok != (size > 0) {
			t.Fatalf("Pop (1) or Steal (2): %d: %v, %v; want %v", kind, got, ok, want)
		}
	default:
		want := p.cut(0, (size+1)/2)
		got := r.Half()
		if !equalAll(got, want) || (size == 0) != (got == nil) {
			t.Fatalf("Half: %v, want %v", got, want)
		}
	}
	is(t, r, p.room, p.tasks...)
}

// scramble yields numbers: the same ones in every run.
func scramble(seed uint64) func(n int) int {
	return func(n int) int {
		seed = seed*6364136223846793005 + 1442695040888963407
		return int(seed>>33) % n
	}
}

func TestP15_1_Example(t *testing.T) {
	r := filled(t, 3, 3, 0)
	if got := r.Half(); !equalAll(got, someTasks(1, 2)) {
		t.Errorf("Half: %v", got)
	}
	is(t, r, 3, someTask(3))
}

// TestP15_1_Room: less than 1 counts as 1, and more than MaxRing as MaxRing.
func TestP15_1_Room(t *testing.T) {
	for _, c := range []struct{ room, want int }{
		{math.MinInt, 1}, {math.MinInt32, 1}, {-1 << 32, 1}, {-64, 1}, {-2, 1}, {-1, 1}, {0, 1}, {1, 1}, {2, 2}, {3, 3}, {31, 31}, {32, 32}, {63, 63}, {64, 64},
		{65, 64}, {66, 64}, {128, 64}, {256, 64}, {257, 64}, {65536, 64}, {math.MaxInt32, 64}, {1 << 32, 64}, {1<<32 + 1, 64}, {math.MaxInt, 64},
	} {
		r := ring.New(c.room)
		is(t, r, c.want)
		var want []api.Task
		for n := range c.want {
			if !r.Push(someTask(n)) {
				t.Errorf("room %d: Push of task %d: false", c.room, n)
			}
			want = append(want, someTask(n))
			is(t, r, c.want, want...)
		}
		for range 3 {
			if r.Push(someTask(100)) {
				t.Errorf("room %d: Push to a full ring: true", c.room)
			}
			is(t, r, c.want, want...)
		}
	}
}

// TestP15_1_AllCalls: every sequence of a few calls, in rings of little room.
func TestP15_1_AllCalls(t *testing.T) {
	for room := 1; room <= 4; room++ {
		for code := range 1 << 14 {
			r, p := ring.New(room), &plain{room: room}
			for n := range 7 {
				call(t, r, p, code>>(2*n)&3, n)
			}
		}
	}
}

// TestP15_1_RandomCalls: longer ones, in rings of any room that are now fuller and now emptier.
func TestP15_1_RandomCalls(t *testing.T) {
	next := scramble(15)
	for range 200 {
		room := 1 + next(64)
		r, p := ring.New(room), &plain{room: room}
		for n := range 400 {
			kind := 0
			if next(200) < 60+n/100*25 {
				kind = 1 + next(2)
			} else if next(40) == 0 {
				kind = 3
			}
			call(t, r, p, kind, n)
		}
	}
}

// TestP15_1_Half: of every number of tasks, wherever the top is.
func TestP15_1_Half(t *testing.T) {
	for _, room := range []int{1, 2, 3, 4, 5, 8, 16, 63, 64} {
		for size := range room + 1 {
			for _, shift := range []int{0, 1, room / 2, room - 1} {
				r := filled(t, room, size, shift)
				var whole []api.Task
				for n := range size {
					whole = append(whole, someTask(n+1))
				}
				count := size/2 + size%2
				if got := r.Half(); !equalAll(got, whole[:count]) {
					t.Errorf("Half of %d tasks in room for %d: %v", size, room, got)
				}
				is(t, r, room, whole[count:]...)
			}
		}
	}
}

func TestP15_1_Empty(t *testing.T) {
	for _, r := range []*ring.Ring{ring.New(1), ring.New(2), ring.New(64), filled(t, 3, 0, 2)} {
		for range 3 {
			if got, ok := r.Pop(); !equal(got, api.Task{}) || ok {
				t.Errorf("Pop: %v, %v", got, ok)
			}
			if got, ok := r.Steal(); !equal(got, api.Task{}) || ok {
				t.Errorf("Steal: %v, %v", got, ok)
			}
			if got := r.Half(); got != nil {
				t.Errorf("Half: %v", got)
			}
			is(t, r, r.Room())
		}
		if !r.Push(someTask(5)) {
			t.Error("Push to an empty ring: false")
		}
		is(t, r, r.Room(), someTask(5))
	}
}

// TestP15_1_AnyTask: no field of a task is looked at, and equal tasks are several.
func TestP15_1_AnyTask(t *testing.T) {
	tasks := []api.Task{
		{}, {}, {Id: -1}, {Id: math.MinInt32, Func: math.MinInt, Pc: math.MaxInt, Label: -7, Clear: math.MaxInt, Privs: math.MaxUint32, Worker: math.MinInt},
		someTask(1), someTask(1), {Stack: make([]int32, 5000)}, {Stack: []int32{}}, {Worker: 1 << 40}, {Vars: [api.Locals]int32{0, 0, 0, -1}},
	}
	r := ring.New(len(tasks))
	for _, x := range tasks {
		r.Push(x)
	}
	is(t, r, len(tasks), tasks...)
	for n, want := range tasks {
		take := r.Steal
		if n >= 5 {
			want, take = tasks[len(tasks)-1-(n-5)], r.Pop
		}
		if got, ok := take(); !equal(got, want) || !task.Same(got, want) || !ok {
			t.Errorf("task %d: %v, %v; want %v", n, got, ok, want)
		}
	}
}

// TestP15_1_NothingShared: what happens to a task that went in or came out is of no account for the ring, nor the other way round.
func TestP15_1_NothingShared(t *testing.T) {
	spoil := func(l ...api.Task) {
		for n := range l {
			whole := l[n].Stack[:cap(l[n].Stack)]
			for k := range whole {
				whole[k] = 77
			}
		}
	}
	r, whole := ring.New(4), []int32{1, 2, 3, 901, 902}
	r.Push(api.Task{Id: 1, Stack: whole[:2]})
	r.Push(api.Task{Id: 2, Stack: whole[:3]})
	r.Push(api.Task{Id: 3, Stack: whole[2:3]})
	want := []api.Task{{Id: 1, Stack: []int32{1, 2}}, {Id: 2, Stack: []int32{1, 2, 3}}, {Id: 3, Stack: []int32{3}}}
	is(t, r, 4, want...)
	if !slices.Equal(whole, []int32{1, 2, 3, 901, 902}) {
		t.Errorf("the stacks are now %v", whole)
	}
	spoil(api.Task{Stack: whole})
	is(t, r, 4, want...)
	spoil(r.All()...)
	clear(r.All())
	is(t, r, 4, want...)
	before := r.All()
	stolen, _ := r.Steal()
	spoil(stolen)
	half := r.Half()
	spoil(half...)
	is(t, r, 4, want[2])
	r.Push(api.Task{Id: 4, Stack: []int32{4}})
	popped, _ := r.Pop()
	spoil(popped)
	is(t, r, 4, want[2])
	if !equalAll(before, want) || !slices.Equal(popped.Stack[:1], []int32{77}) {
		t.Errorf("an earlier answer of All became %v", before)
	}
}

// TestP15_2_NewestAndOldest: the owner works on one end and thieves on the other.
func TestP15_2_NewestAndOldest(t *testing.T) {
	for size := 1; size <= 64; size++ {
		for _, shift := range []int{0, 1, 40, 63} {
			r := filled(t, 64, size, shift)
			oldest, newest := 1, size
			for left := size; left > 0; left-- {
				want, take := newest, r.Pop
				if left%3 == 0 {
					want, take = oldest, r.Steal
					oldest++
				} else {
					newest--
				}
				if got, ok := take(); !equal(got, someTask(want)) || !ok || r.Len() != left-1 {
					t.Fatalf("%d of %d tasks left: %v, %v; want task %d", left, size, got, ok, want)
				}
			}
		}
	}
}

// TestP15_1_SideBySide: rings in different goroutines have nothing in common.
func TestP15_1_SideBySide(t *testing.T) {
	var all sync.WaitGroup
	for g := range 8 {
		all.Go(func() {
			r := ring.New(3)
			for n := range 200 {
				a, b := someTask(100*g+n), someTask(-n)
				r.Push(a)
				r.Push(b)
				is(t, r, 3, a, b)
				if got := r.Half(); !equalAll(got, []api.Task{a}) {
					t.Errorf("Half: %v, want %v", got, a)
				}
				r.Pop()
				is(t, r, 3)
			}
		})
	}
	all.Wait()
}
