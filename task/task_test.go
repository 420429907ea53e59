package task_test

import (
	"math"
	"reflect"
	"slices"
	"sync"
	"testing"

	"confidant/api"
	"confidant/image"
	"confidant/instr"
	"confidant/ops"
	"confidant/task"
)

const most, least = math.MaxInt32, math.MinInt32

// in is an instruction; without an argument it is 0.
func in(op int, arg ...int32) api.Instr {
	i := api.Instr{Op: op}
	for _, a := range arg {
		i.Arg = a
	}
	return i
}

// scramble yields numbers: the same ones in every run.
func scramble(seed uint64) func(n int) int {
	return func(n int) int {
		seed = seed*6364136223846793005 + 1442695040888963407
		return int(seed>>33) % n
	}
}

// someTask has different values everywhere, and memory behind its stack.
func someTask(stack ...int32) api.Task {
	whole := append(slices.Clone(stack), 901, 902, 903, 904, 905)
	return api.Task{Id: 31, Func: 1, Pc: 2, Stack: whole[:len(stack)], Vars: [api.Locals]int32{41, 42, 43, 44}, Label: 5, Clear: 6, Privs: 7, Worker: 8}
}

// imageFor has i where someTask is, and other instructions before and behind it.
func imageFor(i api.Instr) api.Image {
	other := in(api.Fail, 77)
	return api.Image{{other, other, other, other}, {other, other, i, other}, {other}}
}

// equal goes by the language's own comparison, but for empty stacks.
func equal(a, b api.Task) bool {
	if len(a.Stack) == 0 && len(b.Stack) == 0 {
		a.Stack, b.Stack = nil, nil
	}
	return reflect.DeepEqual(a, b)
}

// steps asks for one step of t.
func steps(t *testing.T, from api.Task, m api.Image, want api.Task, outcome api.Outcome) {
	t.Helper()
	if got, o := task.Step(from, m); !equal(got, want) || o != outcome {
		t.Errorf("Step of %v: %v, %v; want %v, %v", from, got, o, want, outcome)
	}
}

// stays is a step that leaves the task as it is.
func stays(t *testing.T, from api.Task, m api.Image, outcome api.Outcome) {
	t.Helper()
	steps(t, from, m, from, outcome)
}

// goes is a step from one stack to another, behind the instruction.
func goes(t *testing.T, i api.Instr, from, to []int32) {
	t.Helper()
	want := someTask(to...)
	want.Pc = 3
	steps(t, someTask(from...), imageFor(i), want, api.Outcome{Kind: api.Went})
}

func failed(code api.Errno) api.Outcome {
	return api.Outcome{Kind: api.Failed, Code: code}
}

// list is a stack.
func list(l ...int32) []int32 {
	return l
}

func TestP10_1_New(t *testing.T) {
	for _, s := range []api.Start{
		{}, {Func: 2, Arg: 3, Label: 4, Clear: 5, Privs: 6, Worker: 7}, {Arg: -1}, {Label: 15}, {Clear: 15}, {Func: 63}, {Worker: 7}, {Privs: 1<<16 - 1},
		{Func: -2, Arg: least, Label: -3, Clear: -4, Privs: math.MaxUint32, Worker: -5},
		{Func: math.MaxInt, Arg: most, Label: math.MaxInt, Clear: math.MinInt, Privs: 1 << 31, Worker: math.MinInt},
	} {
		for _, id := range []int32{0, 1, 65536, most, -1, least} {
			want := api.Task{Id: id, Func: s.Func, Vars: [api.Locals]int32{s.Arg, 0, 0, 0}, Label: s.Label, Clear: s.Clear, Privs: s.Privs, Worker: s.Worker}
			if got := task.New(id, s); !equal(got, want) {
				t.Errorf("New(%d, %v): %v, want %v", id, s, got, want)
			}
		}
	}
}

func TestP10_1_Child(t *testing.T) {
	for _, p := range []api.Task{
		{}, someTask(), someTask(1, 2, 3),
		{Id: 1, Func: 2, Pc: 3, Stack: list(4), Vars: [api.Locals]int32{5, 6, 7, 8}, Label: 9, Clear: 10, Privs: 11, Worker: 12},
		{Id: -1, Func: -2, Pc: -3, Label: -9, Clear: -10, Privs: math.MaxUint32, Worker: -12},
	} {
		for _, n := range []int{0, 1, 63, -1, math.MaxInt, math.MinInt} {
			id, arg, f, clear := int32(n+100), int32(n+200), n, n^5
			want := api.Task{Id: id, Func: f, Vars: [api.Locals]int32{arg, 0, 0, 0}, Label: p.Label, Clear: clear, Privs: p.Privs, Worker: p.Worker}
			if got := task.Child(p, id, f, arg, clear); !equal(got, want) {
				t.Errorf("Child(%v, %d, %d, %d, %d): %v, want %v", p, id, f, arg, clear, got, want)
			}
		}
	}
}

func TestP10_1_Drop(t *testing.T) {
	for _, c := range []struct {
		stack  []int32
		pops   int
		pushes []int32
		want   []int32
	}{
		{nil, 0, nil, nil}, {nil, 0, list(1), list(1)}, {nil, 1, nil, nil}, {nil, 1, list(1, 2), list(1, 2)},
		{list(1, 2, 3), 0, nil, list(1, 2, 3)}, {list(1, 2, 3), 1, nil, list(1, 2)}, {list(1, 2, 3), 2, nil, list(1)}, {list(1, 2, 3), 3, nil, nil},
		{list(1, 2, 3), 0, list(4, 5), list(1, 2, 3, 4, 5)}, {list(1, 2, 3), 1, list(4), list(1, 2, 4)}, {list(1, 2, 3), 1, list(4, 5), list(1, 2, 4, 5)},
		{list(1, 2, 3), 2, list(4), list(1, 4)}, {list(1, 2, 3), 3, list(4, 5, 6, 7), list(4, 5, 6, 7)},
		// fewer values than pops
		{list(1, 2, 3), 4, nil, nil}, {list(1, 2, 3), 4, list(9), list(9)}, {list(1), 100, list(8, 9), list(8, 9)}, {list(1, 2, 3), math.MaxInt, list(9), list(9)},
		// negative pops
		{list(1, 2, 3), -1, nil, list(1, 2, 3)}, {list(1, 2, 3), -1, list(4), list(1, 2, 3, 4)}, {list(1, 2, 3), -3, nil, list(1, 2, 3)},
		{list(1, 2, 3), math.MinInt, list(9), list(1, 2, 3, 9)}, {nil, -5, list(9), list(9)}, {nil, math.MinInt, nil, nil},
	} {
		for _, pc := range []int{2, 0, 511, -1, -8, 1 << 40} {
			from, want := someTask(c.stack...), someTask(c.want...)
			from.Pc, want.Pc = pc, pc+1
			if got := task.Drop(from, c.pops, c.pushes...); !equal(got, want) {
				t.Errorf("Drop(%v, %d, %v): %v, want %v", from, c.pops, c.pushes, got, want)
			}
		}
	}
}

// TestP10_1_DropOfManyValues: there is no limit to the stack, neither before nor behind.
func TestP10_1_DropOfManyValues(t *testing.T) {
	var stack, pushes []int32
	for n := range int32(5000) {
		stack = append(stack, n)
		pushes = append(pushes, -n)
	}
	for _, pops := range []int{0, 1, 31, 32, 33, 4999, 5000, 5001} {
		want := slices.Concat(stack[:max(0, 5000-pops)], pushes)
		if got := task.Drop(someTask(stack...), pops, pushes...); !slices.Equal(got.Stack, want) {
			t.Errorf("Drop of %d of 5000 values, with 5000 new ones: %d values", pops, len(got.Stack))
		}
	}
}

// TestP10_1_DropSharesNothing: neither with the task nor with the pushes, nor with what stands behind them.
func TestP10_1_DropSharesNothing(t *testing.T) {
	stack := list(1, 2, 3, 901, 902)
	pushes := list(4, 5, 903, 904)
	for pops := -1; pops <= 4; pops++ {
		for size := range 3 {
			from := api.Task{Stack: stack[:3]}
			got := task.Drop(from, pops, pushes[:size]...)
			again := task.Drop(from, pops, pushes[:size]...)
			before := slices.Clone(again.Stack)
			for n := range got.Stack {
				got.Stack[n] = 99
			}
			_ = append(got.Stack, 99, 99, 99)
			if !slices.Equal(stack, list(1, 2, 3, 901, 902)) || !slices.Equal(pushes, list(4, 5, 903, 904)) || !slices.Equal(again.Stack, before) {
				t.Fatalf("Drop of %d values with %d new ones shares memory: %v, %v, %v", pops, size, stack, pushes, again.Stack)
			}
		}
	}
}

func TestP10_1_Same(t *testing.T) {
	base := someTask(1, 2, 3)
	others := map[string]func(*api.Task){
		"Id":          func(o *api.Task) { o.Id++ },
		"Func":        func(o *api.Task) { o.Func++ },
		"Pc":          func(o *api.Task) { o.Pc++ },
		"Label":       func(o *api.Task) { o.Label++ },
		"Clear":       func(o *api.Task) { o.Clear++ },
		"Privs":       func(o *api.Task) { o.Privs++ },
		"Worker":      func(o *api.Task) { o.Worker++ },
		"high Func":   func(o *api.Task) { o.Func += 1 << 32 },
		"high Pc":     func(o *api.Task) { o.Pc += 1 << 32 },
		"high Label":  func(o *api.Task) { o.Label += 1 << 32 },
		"high Clear":  func(o *api.Task) { o.Clear += 1 << 32 },
		"high Worker": func(o *api.Task) { o.Worker += 1 << 32 },
		"high Privs":  func(o *api.Task) { o.Privs |= 1 << 31 },
		"first var":   func(o *api.Task) { o.Vars[0]++ },
		"second var":  func(o *api.Task) { o.Vars[1]++ },
		"third var":   func(o *api.Task) { o.Vars[2]++ },
		"last var":    func(o *api.Task) { o.Vars[3]++ },
		"swapped":     func(o *api.Task) { o.Vars[0], o.Vars[3] = o.Vars[3], o.Vars[0] },
		"shorter":     func(o *api.Task) { o.Stack = o.Stack[:2] },
		"without":     func(o *api.Task) { o.Stack = nil },
		"longer":      func(o *api.Task) { o.Stack = list(1, 2, 3, 4) },
		"zero behind": func(o *api.Task) { o.Stack = list(1, 2, 3, 0) },
		"first":       func(o *api.Task) { o.Stack = list(9, 2, 3) },
		"middle":      func(o *api.Task) { o.Stack = list(1, 9, 3) },
		"last":        func(o *api.Task) { o.Stack = list(1, 2, 9) },
		"other order": func(o *api.Task) { o.Stack = list(3, 2, 1) },
		"zero":        func(o *api.Task) { *o = api.Task{} },
	}
	for name, change := range others {
		other := someTask(1, 2, 3)
		change(&other)
		if task.Same(base, other) || task.Same(other, base) {
			t.Errorf("%s: Same as without the change", name)
		}
		if !task.Same(other, other) {
			t.Errorf("%s: not Same as itself", name)
		}
	}
	if !task.Same(base, someTask(1, 2, 3)) || !task.Same(api.Task{}, api.Task{}) {
		t.Error("two equal tasks are not Same")
	}
	if !task.Same(api.Task{}, api.Task{Stack: list()}) || !task.Same(api.Task{Stack: make([]int32, 0, 5)}, api.Task{}) {
		t.Error("a nil stack and an empty one are not Same")
	}
	if !task.Same(api.Task{Stack: make([]int32, 2, 2)}, api.Task{Stack: make([]int32, 2, 9)}) {
		t.Error("tasks are not Same because of what is behind their stacks")
	}
}

func TestP10_2_NoFunctionOrInstruction(t *testing.T) {
	m := api.Image{{in(api.Push, 1), in(api.Ret)}, nil, {in(api.Push, 2)}}
	for _, code := range []api.Image{m, m[:1], m[:2], nil, {}, {nil}} {
		for _, f := range []int{0, 1, 2, 3, 64, -1, math.MaxInt, math.MinInt} {
			for _, pc := range []int{0, 1, 2, 3, 512, -1, math.MaxInt, math.MinInt} {
				from := someTask(5)
				from.Func, from.Pc = f, pc
				if f >= 0 && f < len(code) && pc >= 0 && pc < len(code[f]) {
					if _, o := task.Step(from, code); o.Kind == api.Failed {
						t.Errorf("Step at %d of function %d of %v: %v", pc, f, code, o)
					}
				} else {
					stays(t, from, code, failed(api.ErrCode))
				}
			}
		}
	}
}

func TestP10_2_NotKnown(t *testing.T) {
	for _, op := range []int{0, -1, api.Fail + 1, api.Fail + 2, 255, 1 << 31, 1<<32 + api.Push, 1<<32 + api.Ret, math.MaxInt, math.MinInt} {
		for _, arg := range []int32{0, 1, -1, most} {
			stays(t, someTask(1, 2, 3), imageFor(in(op, arg)), failed(api.ErrCode))
			stays(t, someTask(), imageFor(in(op, arg)), failed(api.ErrCode))
		}
	}
}

// TestP10_2_TooFewValues: every instruction with every stack that is too short, whatever its argument is.
func TestP10_2_TooFewValues(t *testing.T) {
	takes := map[int]int{
		api.Pop: 1, api.Dup: 1, api.JumpZ: 1, api.Store: 1, api.Input: 1, api.New: 1, api.Read: 1, api.Wait: 1, api.Emit: 1, api.Release: 1, api.Ret: 1,
		api.Add: 2, api.Sub: 2, api.Mul: 2, api.Div: 2, api.Less: 2, api.Eq: 2, api.Write: 2, api.Fork: 2,
	}
	for op := api.Push; op <= api.Fail; op++ {
		for size := range 4 {
			for _, arg := range []int32{0, 2, 3} {
				stack := []int32{6, 0, 7}[3-size:]
				from, m := someTask(stack...), imageFor(in(op, arg))
				if size < takes[op] {
					stays(t, from, m, failed(api.ErrCode))
				} else if _, o := task.Step(from, m); o.Kind == api.Failed && op != api.Fail && op != api.Div {
					t.Errorf("Step at %q with %d values: %v", ops.Name(op), size, o)
				}
			}
		}
	}
}

func TestP10_2_Push(t *testing.T) {
	for _, v := range []int32{0, 1, -1, 5, 300, most, least} {
		goes(t, in(api.Push, v), nil, list(v))
		goes(t, in(api.Push, v), list(1, 2), list(1, 2, v))
	}
}

func TestP10_2_PopDup(t *testing.T) {
	goes(t, in(api.Pop), list(5), nil)
	goes(t, in(api.Pop), list(1, 2, 3), list(1, 2))
	goes(t, in(api.Dup), list(5), list(5, 5))
	goes(t, in(api.Dup), list(1, 2, -3), list(1, 2, -3, -3))
}

// TestP10_2_Compute: the first operand is the last but one of the stack.
func TestP10_2_Compute(t *testing.T) {
	for _, c := range []struct {
		op      int
		a, b    int32
		results int32
	}{
		{api.Add, 2, 3, 5}, {api.Add, most, 1, least}, {api.Add, -1, -2, -3},
		{api.Sub, 2, 3, -1}, {api.Sub, 3, 2, 1}, {api.Sub, least, 1, most},
		{api.Mul, 2, 3, 6}, {api.Mul, 1 << 16, 1 << 16, 0}, {api.Mul, -4, 5, -20},
		{api.Div, 7, 2, 3}, {api.Div, 2, 7, 0}, {api.Div, -7, 2, -3}, {api.Div, least, -1, least}, {api.Div, 0, 5, 0},
		{api.Less, 2, 3, 1}, {api.Less, 3, 2, 0}, {api.Less, 3, 3, 0}, {api.Less, -1, 0, 1}, {api.Less, least, most, 1},
		{api.Eq, 2, 3, 0}, {api.Eq, 3, 3, 1}, {api.Eq, -3, 3, 0},
	} {
		goes(t, in(c.op), list(c.a, c.b), list(c.results))
		goes(t, in(c.op), list(11, 12, c.a, c.b), list(11, 12, c.results))
	}
}

func TestP10_2_DivByZero(t *testing.T) {
	for _, a := range []int32{0, 1, -1, most, least} {
		stays(t, someTask(a, 0), imageFor(in(api.Div)), failed(api.ErrDiv))
		stays(t, someTask(1, 2, a, 0), imageFor(in(api.Div)), failed(api.ErrDiv))
	}
	stays(t, someTask(0), imageFor(in(api.Div)), failed(api.ErrCode))
}

func TestP10_2_LoadStore(t *testing.T) {
	for local := range int32(api.Locals) {
		goes(t, in(api.Load, local), nil, list(41+local))
		goes(t, in(api.Load, local), list(1, 2), list(1, 2, 41+local))
		for _, stack := range [][]int32{{8}, {1, 2, -9}} {
			last := len(stack) - 1
			want := someTask(stack[:last]...)
			want.Pc = 3
			want.Vars[local] = stack[last]
			steps(t, someTask(stack...), imageFor(in(api.Store, local)), want, api.Outcome{Kind: api.Went})
		}
	}
}

func TestP10_2_NoSuchLocal(t *testing.T) {
	for _, local := range []int32{api.Locals, api.Locals + 1, 16, -1, -2, most, least} {
		for _, stack := range [][]int32{nil, {5}, {5, 6}} {
			stays(t, someTask(stack...), imageFor(in(api.Load, local)), failed(api.ErrCode))
			stays(t, someTask(stack...), imageFor(in(api.Store, local)), failed(api.ErrCode))
		}
	}
}

func TestP10_2_Label(t *testing.T) {
	for _, label := range []int{0, 1, 5, 15, 16, -1, most, least} {
		for _, stack := range [][]int32{nil, {1, 2}} {
			from, want := someTask(stack...), someTask(append(slices.Clone(stack), int32(label))...)
			from.Label, want.Label, want.Pc = label, label, 3
			steps(t, from, imageFor(in(api.Label)), want, api.Outcome{Kind: api.Went})
		}
	}
}

// TestP10_2_Jumps: also to places where there is no instruction.
func TestP10_2_Jumps(t *testing.T) {
	went := api.Outcome{Kind: api.Went}
	for _, to := range []int32{0, 1, 2, 3, 4, 511, 512, -1, most, least} {
		for _, stack := range [][]int32{nil, {0}, {7}, {1, 2, 0}} {
			want := someTask(stack...)
			want.Pc = int(to)
			steps(t, someTask(stack...), imageFor(in(api.Jump, to)), want, went)
			steps(t, someTask(append(slices.Clone(stack), 0)...), imageFor(in(api.JumpZ, to)), want, went)
			for _, v := range []int32{1, -1, 256, 1 << 16, most, least} {
				goes(t, in(api.JumpZ, to), append(slices.Clone(stack), v), stack)
			}
		}
	}
}

func TestP10_2_RetFail(t *testing.T) {
	for _, v := range []int32{0, 1, -1, 5, most, least} {
		stays(t, someTask(v), imageFor(in(api.Ret)), api.Outcome{Kind: api.Ended, Value: v})
		stays(t, someTask(1, 2, v), imageFor(in(api.Ret)), api.Outcome{Kind: api.Ended, Value: v})
		stays(t, someTask(), imageFor(in(api.Fail, v)), failed(api.Errno(v)))
		stays(t, someTask(1, 2), imageFor(in(api.Fail, v)), failed(api.Errno(v)))
	}
}

func TestP10_2_Asks(t *testing.T) {
	for _, op := range []int{api.Raise, api.Input, api.New, api.Read, api.Write, api.Fork, api.Wait, api.Emit, api.Release, api.Take} {
		for _, arg := range []int32{0, 1, 4, 16, -1, most, least} {
			stays(t, someTask(5, 6), imageFor(in(op, arg)), api.Outcome{Kind: api.Asks})
			stays(t, someTask(1, 2, 0, 0), imageFor(in(op, arg)), api.Outcome{Kind: api.Asks})
		}
	}
	stays(t, someTask(), imageFor(in(api.Raise)), api.Outcome{Kind: api.Asks})
	stays(t, someTask(), imageFor(in(api.Take)), api.Outcome{Kind: api.Asks})
}

// TestP10_2_OtherArguments: where an instruction has no use for its Arg, it does the same with every Arg.
func TestP10_2_OtherArguments(t *testing.T) {
	for op := api.Push; op <= api.Fail; op++ {
		if kind := ops.Arg(op); kind != ops.NoArg {
			continue
		}
		want, outcome := task.Step(someTask(1, 6, 2), imageFor(in(op)))
		if outcome.Kind == api.Failed {
			t.Errorf("Step at %q: %v", ops.Name(op), outcome)
		}
		for _, arg := range []int32{1, 3, 4, 99, -1, most, least} {
			steps(t, someTask(1, 6, 2), imageFor(in(op, arg)), want, outcome)
		}
	}
}

// TestP10_2_LongStack: MaxStack is verify's matter.
func TestP10_2_LongStack(t *testing.T) {
	for _, size := range []int{api.MaxStack - 1, api.MaxStack, api.MaxStack + 1, 1000} {
		stack := make([]int32, size)
		for n := range stack {
			stack[n] = int32(n + 1)
		}
		last := int32(size)
		goes(t, in(api.Push, -5), stack, append(slices.Clone(stack), -5))
		goes(t, in(api.Dup), stack, append(slices.Clone(stack), last))
		goes(t, in(api.Sub), stack, append(slices.Clone(stack[:size-2]), -1))
		goes(t, in(api.Pop), stack, stack[:size-1])
		stays(t, someTask(stack...), imageFor(in(api.Ret)), api.Outcome{Kind: api.Ended, Value: last})
		stays(t, someTask(stack...), imageFor(in(api.Wait)), api.Outcome{Kind: api.Asks})
	}
}

// slowStep is P10.2 for a task that has its instruction and what that takes.
func slowStep(from api.Task, i api.Instr) (api.Task, api.Outcome) {
	t := from
	var a, b int32
	size := len(from.Stack)
	if size > 0 {
		b = from.Stack[size-1]
	}
	if size > 1 {
		a = from.Stack[size-2]
	}
	put := func(pops int, pushes ...int32) (api.Task, api.Outcome) {
		t.Stack = append(append([]int32(nil), from.Stack[:size-pops]...), pushes...)
		t.Pc++
		return t, api.Outcome{Kind: api.Went}
	}
	one := func(holds bool) (api.Task, api.Outcome) {
		if holds {
			return put(2, 1)
		}
		return put(2, 0)
	}
	switch i.Op {
	case api.Push:
		return put(0, i.Arg)
	case api.Pop:
		return put(1)
	case api.Dup:
		return put(0, b)
	case api.Add:
		return put(2, a+b)
	case api.Sub:
		return put(2, a-b)
	case api.Mul:
		return put(2, a*b)
	case api.Div:
		if b == 0 {
			return from, failed(api.ErrDiv)
		}
		return put(2, a/b)
	case api.Less:
		return one(a < b)
	case api.Eq:
		return one(a == b)
	case api.Jump:
		put(0)
		t.Pc = int(i.Arg)
		return t, api.Outcome{Kind: api.Went}
	case api.JumpZ:
		put(1)
		if b == 0 {
			t.Pc = int(i.Arg)
		}
		return t, api.Outcome{Kind: api.Went}
	case api.Load:
		return put(0, from.Vars[i.Arg])
	case api.Store:
		put(1)
		t.Vars[i.Arg] = b
		return t, api.Outcome{Kind: api.Went}
	case api.Label:
		return put(0, int32(from.Label))
	case api.Ret:
		return from, api.Outcome{Kind: api.Ended, Value: b}
	case api.Fail:
		return from, failed(api.Errno(i.Arg))
	}
	return from, api.Outcome{Kind: api.Asks}
}

// slowAny is P10.2.
func slowAny(from api.Task, m api.Image) (api.Task, api.Outcome) {
	if from.Func < 0 || from.Func >= len(m) || from.Pc < 0 || from.Pc >= len(m[from.Func]) {
		return from, failed(api.ErrCode)
	}
	i := m[from.Func][from.Pc]
	local := i.Op == api.Load || i.Op == api.Store
	if !ops.Known(i.Op) || len(from.Stack) < ops.Pops(i.Op) || local && (i.Arg < 0 || i.Arg >= 4) {
		return from, failed(api.ErrCode)
	}
	return slowStep(from, i)
}

// random is an image of any instructions, with small arguments mostly.
func random(next func(int) int) api.Image {
	m := make(api.Image, 1+next(3))
	for k := range m {
		m[k] = make([]api.Instr, 1+next(12))
		for at := range m[k] {
			m[k][at] = in(next(api.Fail+2), int32(next(7)-1))
			if next(3) == 0 {
				m[k][at].Op = api.Push + next(3)
			}
		}
	}
	return m
}

// TestP10_2_ManySteps: tasks that go on until they can't.
func TestP10_2_ManySteps(t *testing.T) {
	next := scramble(10)
	kinds := map[int]int{}
	for range 20000 {
		m := random(next)
		now := task.New(int32(next(100)), api.Start{Func: next(3), Arg: int32(next(20) - 10), Label: next(16), Clear: next(16), Privs: uint32(next(9)), Worker: next(8)})
		for range 40 {
			want, outcome := slowAny(now, m)
			got, o := task.Step(now, m)
			if !equal(got, want) || o != outcome {
				t.Fatalf("Step of %v in\n%s: %v, %v; want %v, %v", now, image.Text(m), got, o, want, outcome)
			}
			kinds[o.Kind]++
			if o.Kind == api.Asks {
				got = task.Drop(got, ops.Pops(m[got.Func][got.Pc].Op), 3)
			} else if o.Kind != api.Went {
				break
			}
			now = got
		}
	}
	for _, kind := range []int{api.Went, api.Ended, api.Failed, api.Asks} {
		if kinds[kind] < 100 {
			t.Errorf("outcome %d came only %d times", kind, kinds[kind])
		}
	}
}

// TestP10_2_ASum: a loop that adds the numbers from 10 to 1.
func TestP10_2_ASum(t *testing.T) {
	m, _, err := image.Parse("func\nload 0\njumpz 12\nload 1\nload 0\nadd\nstore 1\nload 0\npush 1\nsub\nstore 0\njump 0\nfail 1\nload 1\nret\n")
	if err != api.OK {
		t.Fatalf("Parse: %d", err)
	}
	now, o := task.New(1, api.Start{Arg: 10}), api.Outcome{Kind: api.Went}
	count := 0
	for ; o.Kind == api.Went; count++ {
		now, o = task.Step(now, m)
	}
	if o != (api.Outcome{Kind: api.Ended, Value: 55}) || count != 10*11+4 {
		t.Errorf("after %d steps: %v", count, o)
	}
}

// TestP10_3_NothingElseChanges: neither the task that is handed in, nor one that shares its memory, nor the code.
func TestP10_3_NothingElseChanges(t *testing.T) {
	for op := range api.Fail + 2 {
		for _, arg := range []int32{0, 1, 3, 4, -1} {
			whole := list(10, 20, 30, 901, 902, 903)
			from := someTask()
			from.Stack = whole[:3]
			longer := from
			longer.Stack = whole
			m := imageFor(in(op, arg))
			got, o := task.Step(from, m)
			again, same := task.Step(from, m)
			before := slices.Clone(again.Stack)
			for n := range got.Stack {
				got.Stack[n] = 99
			}
			_ = append(got.Stack, 99, 99, 99)
			if !slices.Equal(whole, list(10, 20, 30, 901, 902, 903)) || !slices.Equal(longer.Stack, whole) || !slices.Equal(again.Stack, before) || o != same {
				t.Errorf("Step at %q shares memory: %v, %v", instr.Text(in(op, arg)), whole, again.Stack)
			}
			if from.Pc != 2 || from.Vars != [api.Locals]int32{41, 42, 43, 44} || !image.Same(m, imageFor(in(op, arg))) {
				t.Errorf("Step at %q changes what it is given: %v, %v", instr.Text(in(op, arg)), from, m)
			}
		}
	}
}

// TestP10_3_FromManyGoroutines: tasks that share code and memory go on by themselves.
func TestP10_3_FromManyGoroutines(t *testing.T) {
	m, _, err := image.Parse("func\nload 0\nlabel\nmul\ndup\nstore 2\npush 3\nadd\nload 2\nsub\npop\nload 2\nret\n")
	if err != api.OK {
		t.Fatalf("Parse: %d", err)
	}
	shared := list(1, 2, 3, 4, 5)
	var wait sync.WaitGroup
	for worker := range 8 {
		wait.Go(func() {
			for n := range 500 {
				now := task.New(int32(n), api.Start{Arg: int32(n), Label: worker})
				now.Stack = shared[:2]
				o := api.Outcome{Kind: api.Went}
				for o.Kind == api.Went {
					now, o = task.Step(now, m)
				}
				if o != (api.Outcome{Kind: api.Ended, Value: int32(n * worker)}) || !slices.Equal(now.Stack, list(1, 2, int32(n*worker))) {
					t.Errorf("task %d at label %d: %v, %v", n, worker, now, o)
					return
				}
			}
		})
	}
	wait.Wait()
}
