package queue_test

import (
	"math"
	"reflect"
	"slices"
	"sync"
	"testing"

	"confidant/api"
	"confidant/queue"
)

// entry has different values everywhere; mark tells it from others of the same round and identity.
func entry(round int, id int32, mark int) queue.Entry {
	m := int32(mark)
	return queue.Entry{Round: round, Task: api.Task{
		Id: id, Func: mark + 1, Pc: mark + 2, Stack: []int32{m, m + 1}, Vars: [api.Locals]int32{m + 3, m + 4, m + 5, m + 6},
		Label: mark + 7, Clear: mark + 8, Privs: uint32(mark + 9), Worker: mark + 10,
	}}
}

// equal goes by the language's own comparison, but for empty stacks.
func equal(a, b queue.Entry) bool {
	if len(a.Task.Stack) == 0 && len(b.Task.Stack) == 0 {
		a.Task.Stack, b.Task.Stack = nil, nil
	}
	return reflect.DeepEqual(a, b)
}

func push(q *queue.Queue, l ...queue.Entry) {
	for _, e := range l {
		q.Push(e.Round, e.Task)
	}
}

// is asks for everything that can be seen without a change.
func is(t *testing.T, q *queue.Queue, want ...queue.Entry) {
	t.Helper()
	if got := q.All(); q.Len() != len(want) || !slices.EqualFunc(got, want, equal) {
		t.Errorf("Len %d, All %v; want %d, %v", q.Len(), got, len(want), want)
	}
}

// pops asks for the first entries.
func pops(t *testing.T, q *queue.Queue, want ...queue.Entry) {
	t.Helper()
	for _, e := range want {
		left := q.Len() - 1
		if got, ok := q.Pop(); !equal(got, e) || !ok || q.Len() != left {
			t.Errorf("Pop: %v, %v, and Len %d; want %v, %d", got, ok, q.Len(), e, left)
		}
	}
}

// plain is a queue as the chapter tells it: a list in the order of Pop.
type plain []queue.Entry

// push puts e behind all entries that do not come behind it.
func (p *plain) push(e queue.Entry) {
	at := len(*p)
	for at > 0 {
		before := (*p)[at-1]
		if before.Round < e.Round || before.Round == e.Round && before.Task.Id <= e.Task.Id {
			break
		}
		at--
	}
	*p = slices.Insert(*p, at, e)
}

// scramble yields numbers: the same ones in every run.
func scramble(seed uint64) func(n int) int {
	return func(n int) int {
		seed = seed*6364136223846793005 + 1442695040888963407
		return int(seed>>33) % n
	}
}

func TestP19_1_Empty(t *testing.T) {
	q := queue.New()
	for range 3 {
		if got, ok := q.Pop(); !equal(got, queue.Entry{}) || ok {
			t.Errorf("Pop: %v, %v", got, ok)
		}
		is(t, q)
		push(q, entry(5, 6, 7))
		is(t, q, entry(5, 6, 7))
		pops(t, q, entry(5, 6, 7))
		is(t, q)
	}
}

// TestP19_1_Less: by the rounds, then by the identities, both with signs; by nothing else.
func TestP19_1_Less(t *testing.T) {
	rounds := []int{math.MinInt, math.MinInt + 1, -1 << 32, math.MinInt32, -2, -1, 0, 1, 2, 65535, 65536, math.MaxInt32, 1 << 32, 1<<32 + 1, math.MaxInt - 1, math.MaxInt}
	ids := []int32{math.MinInt32, math.MinInt32 + 1, -65536, -1, 0, 1, 2, 65535, 65536, 65537, math.MaxInt32 - 1, math.MaxInt32}
	for i, a := range rounds {
		for j, b := range rounds {
			for k, x := range ids {
				for l, y := range ids {
					want := i < j || i == j && k < l
					for _, mark := range []int{1, 2, 3} {
						if got := queue.Less(entry(a, x, 2), entry(b, y, mark)); got != want {
							t.Fatalf("Less of round %d, task %d and round %d, task %d: %v", a, x, b, y, got)
						}
					}
				}
			}
		}
	}
	if queue.Less(queue.Entry{}, queue.Entry{}) || !queue.Less(queue.Entry{}, queue.Entry{Round: 1}) || queue.Less(queue.Entry{Task: api.Task{Label: 1, Worker: 2}}, queue.Entry{Task: api.Task{Label: 2, Worker: 3}}) {
		t.Error("Less of entries with little in them")
	}
}

// TestP19_1_AllOrders: some entries, in every order in which they can be added.
func TestP19_1_AllOrders(t *testing.T) {
	inOrder := []queue.Entry{entry(-1, 9, 0), entry(0, -5, 1), entry(0, 3, 2), entry(1, 2, 3), entry(1, 65536, 4), entry(2, 0, 5), entry(70000, -1, 6)}
	var permute func(done, left []queue.Entry)
	permute = func(done, left []queue.Entry) {
		if len(left) == 0 {
			q := queue.New()
			push(q, done...)
			is(t, q, inOrder...)
			pops(t, q, inOrder...)
			is(t, q)
		}
		for n := range left {
			permute(slices.Concat(done, left[n:n+1]), slices.Concat(left[:n], left[n+1:]))
		}
	}
	permute(nil, inOrder)
}

// TestP19_1_EqualEntries: those of the same round and identity come in the order in which they were added.
func TestP19_1_EqualEntries(t *testing.T) {
	for size := range 70 {
		q, p := queue.New(), plain{}
		for mark := range size {
			// marks that fall and rise, so that no other field can decide
			e := entry(3, 8, (mark*37)%71)
			push(q, e)
			p.push(e)
		}
		is(t, q, p...)
		pops(t, q, p...)
	}
	q := queue.New()
	push(q, entry(1, 1, 5), entry(1, 1, 4), entry(0, 9, 3))
	pops(t, q, entry(0, 9, 3), entry(1, 1, 5))
	push(q, entry(1, 1, 2), entry(1, 1, 7))
	is(t, q, entry(1, 1, 4), entry(1, 1, 2), entry(1, 1, 7))
	pops(t, q, entry(1, 1, 4))
	push(q, entry(1, 1, 1))
	pops(t, q, entry(1, 1, 2), entry(1, 1, 7), entry(1, 1, 1))
	is(t, q)
}

// TestP19_1_AllCalls: every sequence of a few calls with few entries.
func TestP19_1_AllCalls(t *testing.T) {
	for code := range 1 << 15 {
		q, p := queue.New(), plain{}
		for n := range 5 {
			kind := code >> (3 * n) & 7
			if kind >= 4 {
				if len(p) > 0 {
					pops(t, q, p[0])
					p = p[1:]
				} else if got, ok := q.Pop(); !equal(got, queue.Entry{}) || ok {
					t.Fatalf("Pop of an empty queue: %v, %v", got, ok)
				}
				continue
			}
			e := entry(kind>>1, int32(kind&1), n)
			push(q, e)
			p.push(e)
		}
		is(t, q, p...)
		pops(t, q, p...)
	}
}

func TestP19_1_RandomCalls(t *testing.T) {
	next := scramble(19)
	for range 60 {
		q, p := queue.New(), plain{}
		rounds, ids := 1+next(20), 1+next(20)
		for n := range 400 {
			if next(400) < 100+n/2 && len(p) > 0 {
				pops(t, q, p[0])
				p = p[1:]
			} else {
				e := entry(next(rounds)-rounds/2, int32(next(ids)-ids/2), next(1000))
				push(q, e)
				p.push(e)
			}
			if n%20 == 0 {
				is(t, q, p...)
			}
		}
		pops(t, q, p...)
		is(t, q)
	}
}

// TestP19_1_ManyEntries: there is no limit.
func TestP19_1_ManyEntries(t *testing.T) {
	q := queue.New()
	for n := range 20000 {
		q.Push(n*7919%20000, api.Task{Id: int32(-n)})
		if q.Len() != n+1 {
			t.Fatalf("Len: %d, want %d", q.Len(), n+1)
		}
	}
	for n, e := range q.All() {
		if e.Round != n {
			t.Fatalf("entry %d of All is of round %d", n, e.Round)
		}
	}
	for n := range 20000 {
		if e, ok := q.Pop(); e.Round != n || !ok {
			t.Fatalf("Pop %d: round %d, %v", n, e.Round, ok)
		}
	}
	is(t, q)
}

// TestP19_1_AnyTask: no field beside the identity is looked at.
func TestP19_1_AnyTask(t *testing.T) {
	tasks := []api.Task{
		{Id: 1, Func: math.MaxInt, Pc: math.MinInt, Label: math.MaxInt, Clear: math.MinInt, Privs: math.MaxUint32, Worker: math.MinInt}, {Id: 1}, {Id: 1, Stack: []int32{}},
		{Id: 1, Stack: make([]int32, 5000)}, {Id: 1, Func: -1, Pc: -1, Label: -1, Clear: -1, Worker: -1}, {Id: 1, Vars: [api.Locals]int32{-1, -2, -3, -4}},
	}
	q := queue.New()
	var want []queue.Entry
	for _, x := range tasks {
		q.Push(4, x)
		want = append(want, queue.Entry{Round: 4, Task: x})
	}
	is(t, q, want...)
	pops(t, q, want...)
}

// TestP19_1_NothingShared: what happens to a task that went in or came out is of no account for the queue, nor the other way round.
func TestP19_1_NothingShared(t *testing.T) {
	spoil := func(l ...queue.Entry) {
		for n := range l {
			whole := l[n].Task.Stack[:cap(l[n].Task.Stack)]
			for k := range whole {
				whole[k] = 77
			}
		}
	}
	q, whole := queue.New(), []int32{1, 2, 3, 901, 902}
	q.Push(1, api.Task{Stack: whole[:2]})
	q.Push(2, api.Task{Stack: whole[:3]})
	q.Push(3, api.Task{Stack: whole[2:3]})
	want := []queue.Entry{{Round: 1, Task: api.Task{Stack: []int32{1, 2}}}, {Round: 2, Task: api.Task{Stack: []int32{1, 2, 3}}}, {Round: 3, Task: api.Task{Stack: []int32{3}}}}
	is(t, q, want...)
	if !slices.Equal(whole, []int32{1, 2, 3, 901, 902}) {
		t.Errorf("the stacks are now %v", whole)
	}
	spoil(queue.Entry{Task: api.Task{Stack: whole}})
	is(t, q, want...)
	spoil(q.All()...)
	clear(q.All())
	is(t, q, want...)
	before := q.All()
	first, _ := q.Pop()
	spoil(first)
	is(t, q, want[1:]...)
	q.Push(0, api.Task{Stack: []int32{4}})
	second, _ := q.Pop()
	spoil(second)
	is(t, q, want[1:]...)
	if !slices.EqualFunc(before, want, equal) {
		t.Errorf("an earlier answer of All became %v", before)
	}
}

// TestP19_1_LessKeepsNothing: it reads its entries only.
func TestP19_1_LessKeepsNothing(t *testing.T) {
	a, b := entry(1, 2, 3), entry(1, 1, 3)
	if queue.Less(a, b) || !queue.Less(b, a) || !equal(a, entry(1, 2, 3)) || !equal(b, entry(1, 1, 3)) {
		t.Errorf("Less of %v and %v", a, b)
	}
}

// TestP19_2_OrderOfArrival: those of earlier rounds are admitted first, however late they are added.
func TestP19_2_OrderOfArrival(t *testing.T) {
	q := queue.New()
	push(q, entry(9, 1, 0), entry(7, 5, 1), entry(8, 0, 2), entry(7, 4, 3), entry(9, 0, 4))
	pops(t, q, entry(7, 4, 3), entry(7, 5, 1))
	push(q, entry(6, 9, 5), entry(8, -1, 6))
	pops(t, q, entry(6, 9, 5), entry(8, -1, 6), entry(8, 0, 2), entry(9, 0, 4), entry(9, 1, 0))
	is(t, q)
}

// TestP19_1_SideBySide: queues have nothing in common, in one goroutine or in several.
func TestP19_1_SideBySide(t *testing.T) {
	a, b := queue.New(), queue.New()
	push(a, entry(1, 1, 1))
	is(t, b)
	push(b, entry(2, 2, 2))
	is(t, a, entry(1, 1, 1))
	is(t, b, entry(2, 2, 2))
	var all sync.WaitGroup
	for g := range 8 {
		all.Go(func() {
			q := queue.New()
			for n := range 200 {
				push(q, entry(-n, int32(g), n))
			}
			for n := range 200 {
				pops(t, q, entry(n-199, int32(g), 199-n))
			}
		})
	}
	all.Wait()
}
