package deck

import (
	"confidant/api"
	"confidant/own"
	"confidant/ring"
)

// worker is a ring, and the task that its owner has in hand, if any.
type worker struct {
	*ring.Ring
	inHand *api.Task
}

func newWorker(room int) *worker {
	return &worker{Ring: ring.New(room)}
}

// left returns how many more tasks fit in the ring.
func (w *worker) left() int {
	return w.Room() - w.Len()
}

func (w *worker) live() int {
	n := w.Len()
	if w.inHand != nil {
		n++
	}
	return n
}

func (w *worker) hold(t api.Task) {
	t = own.Task(t)
	w.inHand = &t
}

func (w *worker) held() (api.Task, bool) {
	if w.inHand == nil {
		return api.Task{}, false
	}
	return own.Task(*w.inHand), true
}

func (w *worker) drop() {
	w.inHand = nil
}

// stealOne is Half, but of at most one task.
func (w *worker) stealOne() []api.Task {
	t, ok := w.Steal()
	if !ok {
		return nil
	}
	return []api.Task{t}
}
