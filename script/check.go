package script

import (
	"confidant/api"
	"confidant/deck"
	"confidant/gate"
	"confidant/image"
	"confidant/lattice"
	"confidant/priv"
	"confidant/table"
	"confidant/verify"
)

// labelled is a script and the lattice of its labels.
type labelled struct {
	api.Script
	*lattice.Lattice
}

func (s labelled) check() api.Errno {
	if err := s.checkCode(); err != api.OK {
		return err
	}
	switch {
	case !s.gatesRight():
		return api.ErrGate
	case !table.Right(s.Table, s.Len()):
		return api.ErrTable
	case !s.partsRight():
		return api.ErrPart
	case !s.startsRight():
		return api.ErrStart
	}
	return api.OK
}

func (s labelled) checkCode() api.Errno {
	// Too much code is found before any other fault, also one in an earlier function.
	if _, err := image.Put(s.Image); err == api.ErrLong {
		return err
	}
	_, _, err := verify.Image(s.Image, s.Len(), len(s.Gates))
	return err
}

func (s labelled) gatesRight() bool {
	for _, g := range s.Gates {
		if !gate.Right(g, s.Len()) {
			return false
		}
	}
	return len(s.Gates) <= api.MaxGates
}

func (s labelled) partsRight() bool {
	for _, p := range s.Parts {
		if !deck.Right(p) {
			return false
		}
	}
	return within(s.Workers, 1, api.MaxWorkers) && len(s.Parts) == s.Len()
}

// startsRight needs as many parts as labels.
func (s labelled) startsRight() bool {
	if len(s.Starts) > api.MaxStarts || !within(s.Rounds, 0, api.MaxRounds) {
		return false
	}
	var at [api.MaxLabels]int
	for _, start := range s.Starts {
		if !s.startRight(start) {
			return false
		}
		at[start.Label]++
	}
	for label, p := range s.Parts {
		if at[label] > min(p.Futures, p.Ring) {
			return false
		}
	}
	return true
}

func (s labelled) startRight(start api.Start) bool {
	return within(start.Func, 0, len(s.Image)-1) &&
		s.Flows(start.Label, start.Clear) &&
		priv.Right(start.Privs) &&
		within(start.Worker, 0, s.Workers-1)
}

func within(n, from, to int) bool {
	return from <= n && n <= to
}
