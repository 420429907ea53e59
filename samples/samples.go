// Package samples: scripts for the tests of the upper layers. The same seed yields the same script.
package samples

import (
	"slices"

	"confidant/api"
	"confidant/lattice"
	"confidant/rng"
)

// Script returns a script without errors, in which everything happens that can happen. Only with gates can values be released.
func Script(seed uint64, gates bool) api.Script {
	m := &maker{Rng: rng.New(seed*2862933555777941757 + 1), funcs: 3}
	s := api.Script{Leq: m.table(), Workers: 1 + m.Below(4), Rounds: m.Below(200)}
	m.labels = len(s.Leq)
	if gates {
		s.Gates = m.ports()
		m.gates = len(s.Gates)
	}
	for n := range m.funcs {
		s.Image = append(s.Image, m.function(n))
	}
	s.Table = m.rounds()
	for range m.labels {
		s.Parts = append(s.Parts, m.part())
	}
	for range 1 + m.Below(4) {
		s.Starts = m.addStart(s)
	}
	return s
}

// Secrets returns s with other Inputs, Picks and Seeds of those labels that do not flow to label, which must be one of s.
func Secrets(s api.Script, label int, seed uint64) api.Script {
	m := &maker{Rng: rng.New(seed*3935559000370003845 + 1)}
	s.Parts = slices.Clone(s.Parts)
	for other := range s.Parts {
		if !s.Leq[other][label] {
			p := &s.Parts[other]
			p.Inputs, p.Picks, p.Seed = m.inputs(), m.picks(), m.Next()
		}
	}
	return s
}

// maker chooses what scripts consist of.
type maker struct {
	*rng.Rng
	labels, funcs, gates int
	next                 int // the function behind the one that is being made
}

func (m *maker) table() [][]bool {
	tables := [][][]bool{lattice.Chain(1), lattice.Chain(2), lattice.Chain(3), lattice.Powers(2), lattice.Powers(2), lattice.Powers(3)}
	return tables[m.Below(len(tables))]
}

// ports are few and lead in all directions.
func (m *maker) ports() []api.Gate {
	var out []api.Gate
	for range 1 + m.Below(3) {
		out = append(out, api.Gate{From: m.Below(m.labels), To: m.Below(m.labels), Need: uint32(m.Below(3)) & uint32(m.Below(3)), Quota: m.Below(5)})
	}
	return out
}

// rounds contain every label.
func (m *maker) rounds() []int {
	var out []int
	for label := range m.labels {
		out = slices.Insert(out, m.Below(len(out)+1), label)
	}
	for range m.Below(4) {
		out = append(out, m.Below(m.labels))
	}
	return out
}

func (m *maker) part() api.Part {
	return api.Part{
		Ring:    1 + m.Below(5),
		Half:    m.Below(2) == 0,
		Fuel:    m.Below(1 + m.Below(400)),
		Refs:    m.Below(15),
		Futures: 1 + m.Below(30),
		Inputs:  m.inputs(),
		Picks:   m.picks(),
		Seed:    m.Next(),
	}
}

func (m *maker) inputs() []int32 {
	var out []int32
	for range m.Below(5) {
		out = append(out, int32(m.Below(3)))
	}
	return out
}

func (m *maker) picks() []byte {
	var out []byte
	for range m.Below(6) {
		out = append(out, byte(m.Next()))
	}
	return out
}

// addStart adds one at a label that has room for it, if the first choice does.
func (m *maker) addStart(s api.Script) []api.Start {
	label := m.Below(m.labels)
	here := 0
	for _, start := range s.Starts {
		if start.Label == label {
			here++
		}
	}
	if here == min(s.Parts[label].Ring, s.Parts[label].Futures) {
		return s.Starts
	}
	return append(s.Starts, api.Start{
		Func:   m.Below(m.funcs),
		Arg:    int32(m.Below(4)),
		Label:  label,
		Clear:  m.above(s.Leq, label),
		Privs:  uint32(m.Below(4)),
		Worker: m.Below(s.Workers),
	})
}

// above is a label to which another one flows.
func (m *maker) above(leq [][]bool, label int) int {
	above := m.high()
	for !leq[label][above] {
		above = m.high()
	}
	return above
}
