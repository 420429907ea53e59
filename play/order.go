package play

import (
	"confidant/api"
	"confidant/table"
)

// What a task can be, as far as the events tell.
const (
	ready = iota
	held
	parked
	away
	finished
)

// rule is what an event makes of a task.
type rule struct {
	before, kind, after int
}

var rules = [...]rule{
	{ready, api.EvTake, held},
	{ready, api.EvFail, finished},
	{held, api.EvFork, held},
	{held, api.EvEmit, held},
	{held, api.EvPark, parked},
	{held, api.EvLeave, away},
	{held, api.EvDone, finished},
	{held, api.EvFail, finished},
	{parked, api.EvWake, ready},
	{parked, api.EvFail, finished},
	{away, api.EvEnter, ready},
}

// inRounds reports whether the Rounds do not decrease, and each event has the label of its round, but for EvEmit.
func inRounds(t []int, events []api.Event) bool {
	for n, e := range events {
		if n > 0 && e.Round < events[n-1].Round {
			return false
		}
		if e.Kind != api.EvEmit && e.Label != table.At(t, e.Round) {
			return false
		}
	}
	return true
}

// inStates reports whether the events of each task follow the rules.
func inStates(events []api.Event) bool {
	states := map[int32]int{}
	for _, e := range events {
		// These tell of workers.
		if e.Kind == api.EvSteal || e.Kind == api.EvMiss {
			continue
		}
		after, allowed := follow(states[e.Task], e.Kind)
		if !allowed {
			return false
		}
		states[e.Task] = after
	}
	return true
}

// follow returns what an event of this kind makes of a task, or false if it is not allowed.
func follow(state, kind int) (int, bool) {
	for _, r := range rules {
		if r.before == state && r.kind == kind {
			return r.after, true
		}
	}
	return 0, false
}
