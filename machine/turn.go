package machine

import (
	"confidant/api"
	"confidant/deck"
)

// turn is a round that is being performed, with the deck of its label.
type turn struct {
	*Machine
	*deck.Deck
	label  int
	events []api.Event
}

func (t *turn) add(e ...api.Event) {
	t.events = append(t.events, e...)
}

func (t *turn) event(kind, worker int, id, a int32) api.Event {
	return api.Event{Round: t.round, Label: t.label, Kind: kind, Worker: worker, Task: id, A: a}
}

// open lets the values down that are pending for this label.
func (t *turn) open() {
	t.log.Add(t.gates.Open(t.label, t.round)...)
}

func (t *turn) enter() {
	events, full := t.Enter(t.round)
	t.add(events...)
	t.failAll(full, api.ErrFull)
}

func (t *turn) wake() {
	events, full, starved := t.Wake(t.futures, t.round)
	t.add(events...)
	t.failAll(full, api.ErrFull)
	t.failAll(starved, api.ErrFuel)
}

// work lets worker w do what it does in one round.
func (t *turn) work(w int) {
	held, ok := t.Held(w)
	if !ok {
		held, ok = t.find(w)
	}
	if !ok {
		return
	}
	s := &step{turn: t, task: held, worker: w}
	if s.need(t.Burn(), api.ErrFuel) {
		s.perform()
	}
}

func (t *turn) find(w int) (api.Task, bool) {
	found, events, ok := t.Find(w, t.round)
	t.add(events...)
	return found, ok
}

// failAll is for tasks that no worker holds.
func (t *turn) failAll(tasks []api.Task, code api.Errno) {
	for _, one := range tasks {
		t.failTask(one.Id, one.Worker, code)
	}
}

// failTask breaks the future of a task, and only this one.
func (t *turn) failTask(id int32, worker int, code api.Errno) {
	t.futures.Break(id, code)
	t.add(t.event(api.EvFail, worker, id, int32(code)))
}
