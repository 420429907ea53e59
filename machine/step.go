package machine

import (
	"confidant/api"
	"confidant/task"
)

// step is one step of a task that a worker holds.
type step struct {
	*turn
	task   api.Task
	worker int
	arg    int     // of the instruction, if it concerns more than the task
	taken  []int32 // from the stack by this instruction, the last one last
}

// instruction is how many values an instruction takes from the stack, and what it does.
type instruction struct {
	takes int
	do    func(*step)
}

// instructions are those that concern more than the task.
func instructions() [api.Take + 1]instruction {
	return [api.Take + 1]instruction{
		api.Raise:   {0, (*step).raise},
		api.Input:   {1, (*step).input},
		api.New:     {1, (*step).create},
		api.Read:    {1, (*step).read},
		api.Write:   {2, (*step).write},
		api.Fork:    {2, (*step).fork},
		api.Wait:    {1, (*step).wait},
		api.Emit:    {1, (*step).emit},
		api.Release: {1, (*step).release},
		api.Take:    {0, (*step).take},
	}
}

func (s *step) perform() {
	next, outcome := task.Step(s.task, s.code)
	switch outcome.Kind {
	case api.Went:
		s.Hold(s.worker, next)
	case api.Ended:
		s.end(outcome.Value)
	case api.Failed:
		s.fail(outcome.Code)
	case api.Asks:
		s.ask()
	}
}

// ask executes an instruction that concerns more than the task; task.Step has found that the stack has what it takes.
func (s *step) ask() {
	i := s.code[s.task.Func][s.task.Pc]
	x := instructions()[i.Op]
	s.arg = int(i.Arg)
	s.taken = s.task.Stack[len(s.task.Stack)-x.takes:]
	x.do(s)
}

// tell is about the task and the worker that performs the step.
func (s *step) tell(kind int, a int32) {
	s.add(s.event(kind, s.worker, s.task.Id, a))
}

func (s *step) end(v int32) {
	s.futures.Keep(s.task.Id, v)
	s.tell(api.EvDone, v)
	s.Drop(s.worker)
}

func (s *step) fail(code api.Errno) {
	s.failTask(s.task.Id, s.worker, code)
	s.Drop(s.worker)
}

// done takes from the stack what the instruction takes, and puts the results on it.
func (s *step) done(results ...int32) {
	s.Hold(s.worker, task.Drop(s.task, len(s.taken), results...))
}

// need returns what it is given; the task fails with the code if that is false.
func (s *step) need(ok bool, code api.Errno) bool {
	if !ok {
		s.fail(code)
	}
	return ok
}

// isAt reports whether the task is at label a. If it is not, it has moved there, or failed.
func (s *step) isAt(a int) bool {
	if s.labels.Flows(a, s.task.Label) {
		return true
	}
	up := s.labels.Join(s.task.Label, a)
	if s.need(s.labels.Flows(up, s.task.Clear), api.ErrClear) {
		s.move(up)
	}
	return false
}

// move leaves the instruction to be executed again at the other label.
func (s *step) move(label int) {
	s.tell(api.EvLeave, int32(label))
	s.Drop(s.worker)
	moved := s.task
	moved.Label = label
	s.decks[label].Come(s.round, moved)
}

// reaches reports whether the task may write to label a: what it knows may flow there, and it could go there itself.
func (s *step) reaches(a int) bool {
	return s.labels.Flows(s.task.Label, a) && s.labels.Flows(a, s.task.Clear)
}
