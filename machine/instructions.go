package machine

import (
	"confidant/api"
	"confidant/ident"
	"confidant/task"
)

func (s *step) raise() {
	if s.isAt(s.arg) {
		s.done()
	}
}

func (s *step) input() {
	label := s.arg
	if !s.isAt(label) {
		return
	}
	v, found := s.inputs.Get(label, s.taken[0])
	if s.need(found, api.ErrNone) {
		s.done(v)
	}
}

// create executes New.
func (s *step) create() {
	label := s.arg
	if !s.need(s.reaches(label), api.ErrLabel) {
		return
	}
	id, ok := s.refs.Make(s.task.Label, label, s.taken[0])
	if s.need(ok, api.ErrQuota) {
		s.done(id)
	}
}

func (s *step) read() {
	id := s.taken[0]
	if !s.isValid(id) || !s.isAt(ident.Label(id)) {
		return
	}
	ref, found := s.refs.Get(id)
	if s.need(found, api.ErrNone) && s.isAt(ref.Label) {
		s.done(ref.Value)
	}
}

func (s *step) write() {
	id, v := s.taken[0], s.taken[1]
	if !s.isValid(id) || !s.need(s.labels.Flows(ident.Label(id), s.task.Label), api.ErrLabel) {
		return
	}
	ref, found := s.refs.Get(id)
	if s.need(found, api.ErrNone) && s.need(s.reaches(ref.Label), api.ErrLabel) {
		s.refs.Set(id, v)
		s.done()
	}
}

func (s *step) emit() {
	label := s.arg
	if !s.need(s.reaches(label), api.ErrLabel) {
		return
	}
	e := s.event(api.EvEmit, s.worker, s.task.Id, s.taken[0])
	e.Label = label
	s.add(e)
	s.done()
}

func (s *step) fork() {
	label, arg := int(s.taken[0]), s.taken[1]
	if !s.need(s.reaches(label), api.ErrLabel) || !s.need(s.Room(s.worker) > 0, api.ErrFull) {
		return
	}
	id, ok := s.futures.Make(s.task.Label, label)
	if !s.need(ok, api.ErrQuota) {
		return
	}
	s.tell(api.EvFork, id)
	child := task.Child(s.task, id, s.arg, arg, label)
	child.Worker = s.worker
	s.Push(s.worker, child)
	s.done(id)
}

func (s *step) wait() {
	id := s.taken[0]
	if !s.isValid(id) || !s.isAt(ident.Label(id)) {
		return
	}
	awaited, found := s.futures.Get(id)
	if !s.need(found, api.ErrNone) || !s.isAt(awaited.Label) {
		return
	}
	switch awaited.State {
	case api.Open:
		s.park(id)
	case api.Kept:
		s.done(awaited.Value)
	case api.Broken:
		s.fail(api.ErrChild)
	}
}

// park leaves the instruction to be executed again when the future has a result.
func (s *step) park(id int32) {
	s.tell(api.EvPark, id)
	s.Drop(s.worker)
	s.Wait(s.task, id)
}

// release tells the task whether its value has been taken up, but not when it will go down.
func (s *step) release() {
	if s.gates.Ask(s.arg, s.task.Label, s.task.Privs, s.taken[0], s.task.Id) {
		s.done(1)
	} else {
		s.done(0)
	}
}

func (s *step) take() {
	n := s.arg
	to, _ := s.gates.To(n)
	if !s.need(s.labels.Flows(s.task.Label, to), api.ErrLabel) || !s.isAt(to) {
		return
	}
	if v, ok := s.gates.Take(n); ok {
		s.done(v, 1)
	} else {
		s.done(0, 0)
	}
}

// isValid reports whether id is an identity of an existing label; otherwise the task has failed.
func (s *step) isValid(id int32) bool {
	return s.need(ident.Valid(id, s.labels.Len()), api.ErrNone)
}
