package verify

import (
	"confidant/api"
	"confidant/ops"
)

// unreached is the depth of an instruction that the control flow has not reached.
const unreached = -1

// flow is what is known of a function's stack after following its control flow.
type flow struct {
	code   []api.Instr
	depths []int // of the first time that the instruction was reached
	bad    []bool
	work   []int // the instructions reached so far, in the order in which they were reached first
}

// follow needs code whose instructions and Places are valid.
func follow(code []api.Instr) *flow {
	w := &flow{code: code, bad: make([]bool, len(code))}
	for range code {
		w.depths = append(w.depths, unreached)
	}
	w.reach(0, 0, 0)
	// The work list grows while it is gone through, but by each instruction only once.
	for done := 0; done < len(w.work); done++ {
		at := w.work[done]
		depth, fits := w.after(at)
		if !fits {
			w.bad[at] = true
			continue
		}
		for _, to := range w.next(at) {
			w.reach(at, to, depth)
		}
	}
	return w
}

// after returns the depth of the stack after an instruction, or false if the stack has too few values or too little room for it.
func (w *flow) after(at int) (int, bool) {
	op := w.code[at].Op
	left := w.depths[at] - ops.Pops(op)
	depth := left + ops.Pushes(op)
	return depth, left >= 0 && depth <= api.MaxStack
}

// next returns the positions that an instruction reaches, in their order; one of them may be behind the last instruction.
func (w *flow) next(at int) []int {
	i := w.code[at]
	switch {
	case ops.Ends(i.Op):
		return nil
	case i.Op == api.Jump:
		return []int{int(i.Arg)}
	case i.Op == api.JumpZ:
		return []int{at + 1, int(i.Arg)}
	}
	return []int{at + 1}
}

// reach lets the instruction from reach the position to.
func (w *flow) reach(from, to, depth int) {
	switch {
	case to == len(w.code):
		w.bad[from] = true
	case w.depths[to] == unreached:
		w.depths[to] = depth
		w.work = append(w.work, to)
	case w.depths[to] != depth:
		w.bad[to] = true
	}
}

// firstBad returns the smallest index of a bad instruction, and true.
func (w *flow) firstBad() (int, bool) {
	for at, bad := range w.bad {
		if bad {
			return at, true
		}
	}
	return 0, false
}
