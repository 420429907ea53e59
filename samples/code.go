package samples

import (
	"confidant/api"
	"confidant/ident"
)

// What the local variables are used for, most of the time.
const (
	argument = iota
	number
	reference
	promise
)

// function consists of statements, which leave the stack as they find it, and of an end. It mostly forks functions behind it.
func (m *maker) function(n int) []api.Instr {
	m.next = n + 1
	f := m.made()
	if m.next < m.funcs {
		f = append(f, m.forked()...)
	}
	var starts []int
	for range 2 + m.Below(8) {
		starts = append(starts, len(f))
		switch m.Below(12) {
		case 0:
			back := starts[m.Below(len(starts))]
			f = append(f, m.load(number), at(api.JumpZ, back))
		case 1, 2:
			skipped := m.statement()
			f = append(f, m.load(number), at(api.JumpZ, len(f)+2+len(skipped)))
			f = append(f, skipped...)
		default:
			f = append(f, m.statement()...)
		}
	}
	if m.Below(8) == 0 {
		return append(f, at(api.Fail, m.Below(5)))
	}
	return append(f, m.load(number), at(api.Ret, 0))
}

// statement is one of all kinds; those about labels are the most frequent ones.
func (m *maker) statement() []api.Instr {
	kinds := []func() []api.Instr{
		m.constant, m.computed, m.identity, m.ownLabel, m.raised,
		m.given, m.given, m.made, m.made, m.read, m.read, m.written, m.written,
		m.forked, m.awaited, m.awaited, m.awaited, m.emitted, m.emitted,
	}
	if m.gates > 0 {
		kinds = append(kinds, m.released, m.released, m.leaked, m.leaked, m.leaked, m.taken, m.taken)
	}
	return kinds[m.Below(len(kinds))]()
}

func (m *maker) constant() []api.Instr {
	return []api.Instr{at(api.Push, m.Below(4)), m.store(number)}
}

func (m *maker) computed() []api.Instr {
	ops := []int{api.Add, api.Sub, api.Mul, api.Less, api.Eq, api.Div}
	return []api.Instr{m.load(argument), m.load(number), at(ops[m.Below(len(ops))], 0), m.store(number)}
}

// identity may be that of nothing.
func (m *maker) identity() []api.Instr {
	id, _ := ident.Of(m.Below(m.labels+1), m.Below(3))
	return []api.Instr{{Op: api.Push, Arg: id}, m.store(reference + m.Below(2))}
}

func (m *maker) ownLabel() []api.Instr {
	return []api.Instr{at(api.Label, 0), m.store(number)}
}

func (m *maker) raised() []api.Instr {
	return []api.Instr{m.labelled(api.Raise)}
}

func (m *maker) given() []api.Instr {
	return []api.Instr{at(api.Push, m.Below(2)), m.labelled(api.Input), m.store(number)}
}

func (m *maker) made() []api.Instr {
	return []api.Instr{m.load(number), at(api.New, m.high()), m.store(reference)}
}

func (m *maker) read() []api.Instr {
	return []api.Instr{m.load(reference), at(api.Read, 0), m.store(number)}
}

func (m *maker) written() []api.Instr {
	return []api.Instr{m.load(reference), m.load(number), at(api.Write, 0)}
}

// forked lets the other task go as high as it can, or no higher than this one.
func (m *maker) forked() []api.Instr {
	label := at(api.Push, m.high())
	if m.Below(4) == 0 {
		label = at(api.Label, 0)
	}
	f := m.Below(m.funcs)
	if m.next < m.funcs && m.Below(6) > 0 {
		f = m.next + m.Below(m.funcs-m.next)
	}
	return []api.Instr{label, m.load(number), at(api.Fork, f), m.store(promise)}
}

func (m *maker) awaited() []api.Instr {
	return []api.Instr{m.load(promise), at(api.Wait, 0), m.store(number)}
}

func (m *maker) emitted() []api.Instr {
	return []api.Instr{m.load(number), at(api.Emit, m.high())}
}

func (m *maker) released() []api.Instr {
	return []api.Instr{m.load(number), at(api.Release, m.Below(m.gates)), m.store(number)}
}

// leaked lets an input down.
func (m *maker) leaked() []api.Instr {
	return []api.Instr{at(api.Push, m.Below(2)), m.labelled(api.Input), at(api.Release, m.Below(m.gates)), m.store(number)}
}

func (m *maker) taken() []api.Instr {
	return []api.Instr{at(api.Take, m.Below(m.gates)), m.store(argument), m.store(number)}
}

// load is of the local variable that is used for this, but now and then of another one.
func (m *maker) load(use int) api.Instr {
	return m.local(api.Load, use)
}

func (m *maker) store(use int) api.Instr {
	return m.local(api.Store, use)
}

func (m *maker) local(op, use int) api.Instr {
	if m.Below(12) == 0 {
		use = m.Below(api.Locals)
	}
	return at(op, use)
}

// high is the last label, which is at the top, most of the time: to write there is allowed to most tasks.
func (m *maker) high() int {
	if m.Below(3) > 0 {
		return m.labels - 1
	}
	return m.Below(m.labels)
}

func (m *maker) labelled(op int) api.Instr {
	return at(op, m.Below(m.labels))
}

func at(op, arg int) api.Instr {
	return api.Instr{Op: op, Arg: int32(arg)}
}
