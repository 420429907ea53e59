package task

import (
	"slices"

	"confidant/api"
	"confidant/ops"
	"confidant/word"
)

// state is a task and the instruction that it is at.
type state struct {
	task  api.Task
	instr api.Instr
}

// actions are what the instructions do that concern nothing but the task; the others have none.
func actions() [api.Fail + 1]func(state) (api.Task, api.Outcome) {
	return [api.Fail + 1]func(state) (api.Task, api.Outcome){
		api.Push:  state.push,
		api.Pop:   state.pop,
		api.Dup:   state.dup,
		api.Add:   state.compute,
		api.Sub:   state.compute,
		api.Mul:   state.compute,
		api.Div:   state.divide,
		api.Less:  state.compute,
		api.Eq:    state.compute,
		api.Jump:  state.jump,
		api.JumpZ: state.jumpZ,
		api.Load:  state.load,
		api.Store: state.store,
		api.Label: state.label,
		api.Ret:   state.ret,
		api.Fail:  state.fail,
	}
}

// operations are the functions of the instructions that compute, but for Div, which can fail.
func operations() [api.Eq + 1]func(a, b int32) int32 {
	return [api.Eq + 1]func(a, b int32) int32{
		api.Add:  word.Add,
		api.Sub:  word.Sub,
		api.Mul:  word.Mul,
		api.Less: word.Less,
		api.Eq:   word.Eq,
	}
}

// current returns the instruction that t is at, or false if there is none or it is not Known.
func current(t api.Task, m api.Image) (api.Instr, bool) {
	f, _ := element(m, t.Func)
	i, found := element(f, t.Pc)
	return i, found && ops.Known(i.Op)
}

func element[E any](l []E, n int) (E, bool) {
	if n < 0 || n >= len(l) {
		var none E
		return none, false
	}
	return l[n], true
}

// right reports whether the stack has what the instruction takes, and whether its local variable exists.
func (s state) right() bool {
	hasLocal := ops.Arg(s.instr.Op) != ops.Local || s.instr.Arg >= 0 && s.instr.Arg < api.Locals
	return hasLocal && len(s.task.Stack) >= ops.Pops(s.instr.Op)
}

// fromTop returns a value of the stack, the last one for 0.
func (s state) fromTop(n int) int32 {
	return s.task.Stack[len(s.task.Stack)-1-n]
}

// went takes from the stack what the instruction takes, whichever it is.
func (s state) went(pushes ...int32) (api.Task, api.Outcome) {
	return Drop(s.task, ops.Pops(s.instr.Op), pushes...), api.Outcome{Kind: api.Went}
}

// unchanged copies the stack, because a result shares no memory with an argument.
func (s state) unchanged(o api.Outcome) (api.Task, api.Outcome) {
	t := s.task
	t.Stack = slices.Clone(t.Stack)
	return t, o
}

func (s state) failed(code api.Errno) (api.Task, api.Outcome) {
	return s.unchanged(api.Outcome{Kind: api.Failed, Code: code})
}

func (s state) push() (api.Task, api.Outcome) {
	return s.went(s.instr.Arg)
}

func (s state) pop() (api.Task, api.Outcome) {
	return s.went()
}

func (s state) dup() (api.Task, api.Outcome) {
	return s.went(s.fromTop(0), s.fromTop(0))
}

func (s state) compute() (api.Task, api.Outcome) {
	return s.went(operations()[s.instr.Op](s.fromTop(1), s.fromTop(0)))
}

func (s state) divide() (api.Task, api.Outcome) {
	quotient, ok := word.Div(s.fromTop(1), s.fromTop(0))
	if !ok {
		return s.failed(api.ErrDiv)
	}
	return s.went(quotient)
}

func (s state) jump() (api.Task, api.Outcome) {
	t, o := s.went()
	t.Pc = int(s.instr.Arg)
	return t, o
}

func (s state) jumpZ() (api.Task, api.Outcome) {
	if s.fromTop(0) == 0 {
		return s.jump()
	}
	return s.went()
}

func (s state) load() (api.Task, api.Outcome) {
	return s.went(s.task.Vars[s.instr.Arg])
}

func (s state) store() (api.Task, api.Outcome) {
	t, o := s.went()
	t.Vars[s.instr.Arg] = s.fromTop(0)
	return t, o
}

func (s state) label() (api.Task, api.Outcome) {
	return s.went(int32(s.task.Label))
}

func (s state) ret() (api.Task, api.Outcome) {
	return s.unchanged(api.Outcome{Kind: api.Ended, Value: s.fromTop(0)})
}

func (s state) fail() (api.Task, api.Outcome) {
	return s.failed(api.Errno(s.instr.Arg))
}
