package machine_test

import (
	"slices"
	"sort"
	"testing"

	"confidant/api"
	"confidant/machine"
	"confidant/samples"
	"confidant/task"
)

// plain is a machine as the chapters tell it: with lists for everything, and with nothing of the layers but task.Step.
type plain struct {
	s       api.Script
	round   int
	labels  []*plainLabel
	events  []api.Event
	audit   []api.Record
	pending []api.Record   // without Seq and Round
	ready   [][]int32      // released at each gate
	used    map[[2]int]int // how often a gate, by a label
}

// plainLabel is what belongs to a label; the top of a ring comes first.
type plainLabel struct {
	rings   [][]api.Task
	held    []*api.Task
	coming  []plainComing
	waiting []plainWaiting
	picks   []byte
	seed    uint64
	fuel    int
	refs    []api.Ref
	futures []api.Future
}

type plainComing struct {
	round int
	task  api.Task
}

type plainWaiting struct {
	task api.Task
	id   int32
}

func newPlain(s api.Script) *plain {
	p := &plain{s: s, ready: make([][]int32, len(s.Gates)), used: map[[2]int]int{}}
	for _, part := range s.Parts {
		p.labels = append(p.labels, &plainLabel{rings: make([][]api.Task, s.Workers), held: make([]*api.Task, s.Workers), picks: slices.Clone(part.Picks), seed: max(part.Seed, 1), fuel: part.Fuel})
	}
	for _, x := range s.Starts {
		id, _ := p.promise(x.Label, x.Clear)
		p.push(x.Label, x.Worker, api.Task{Id: id, Func: x.Func, Vars: [4]int32{x.Arg}, Label: x.Label, Clear: x.Clear, Privs: x.Privs, Worker: x.Worker})
	}
	return p
}

func (p *plain) flows(a, b int) bool {
	return a >= 0 && b >= 0 && a < len(p.s.Leq) && b < len(p.s.Leq) && p.s.Leq[a][b]
}

// join is the upper bound with the fewest labels below it.
func (p *plain) join(a, b int) int {
	best, least := -1, 99
	for c := range p.s.Leq {
		below := 0
		for d := range p.s.Leq {
			if p.s.Leq[d][c] {
				below++
			}
		}
		if p.s.Leq[a][c] && p.s.Leq[b][c] && below < least {
			best, least = c, below
		}
	}
	return best
}

func (p *plain) promise(by, label int) (int32, bool) {
	l := p.labels[by]
	if len(l.futures) >= p.s.Parts[by].Futures {
		return 0, false
	}
	l.futures = append(l.futures, api.Future{Label: label})
	return int32(by*65536 + len(l.futures) - 1), true
}

func (p *plain) future(id int32) *api.Future {
	l := p.labels[id/65536]
	if int(id%65536) >= len(l.futures) {
		return nil
	}
	return &l.futures[id%65536]
}

func (p *plain) ref(id int32) *api.Ref {
	l := p.labels[id/65536]
	if int(id%65536) >= len(l.refs) {
		return nil
	}
	return &l.refs[id%65536]
}

func (p *plain) push(label, w int, t api.Task) bool {
	l := p.labels[label]
	if len(l.rings[w]) == p.s.Parts[label].Ring {
		return false
	}
	l.rings[w] = append(slices.Clone(l.rings[w]), t)
	return true
}

func (p *plain) tell(label, kind, w int, id int32, a, b int) {
	p.events = append(p.events, api.Event{Round: p.round, Label: label, Kind: kind, Worker: w, Task: id, A: int32(a), B: int32(b)})
}

func (p *plain) fail(label, w int, id int32, code api.Errno) {
	f := p.future(id)
	f.State, f.Code = api.Broken, code
	p.tell(label, api.EvFail, w, id, int(code), 0)
}

// step is one round; it returns its events.
func (p *plain) step() []api.Event {
	p.events = nil
	c := p.s.Table[p.round%len(p.s.Table)]
	p.open(c)
	p.enter(c)
	p.wake(c)
	l := p.labels[c]
	for w := range p.s.Workers {
		if l.held[w] == nil {
			p.find(c, w)
		}
		if l.held[w] == nil {
			continue
		}
		t := *l.held[w]
		l.held[w] = nil
		if l.fuel == 0 {
			p.fail(c, w, t.Id, api.ErrFuel)
			continue
		}
		l.fuel--
		p.work(c, w, t)
	}
	p.round++
	return p.events
}

func (p *plain) open(c int) {
	var rest []api.Record
	for _, r := range p.pending {
		if r.To != c {
			rest = append(rest, r)
			continue
		}
		for _, before := range p.audit {
			if before.To == c {
				r.Seq++
			}
		}
		r.Round = p.round
		p.audit = append(p.audit, r)
		p.ready[r.Gate] = append(p.ready[r.Gate], r.Value)
	}
	p.pending = rest
}

func (p *plain) enter(c int) {
	l := p.labels[c]
	sort.Slice(l.coming, func(i, j int) bool {
		a, b := l.coming[i], l.coming[j]
		return a.round < b.round || a.round == b.round && a.task.Id < b.task.Id
	})
	var full []api.Task
	for _, x := range l.coming {
		p.tell(c, api.EvEnter, x.task.Worker, x.task.Id, 0, 0)
		if !p.push(c, x.task.Worker, x.task) {
			full = append(full, x.task)
		}
	}
	l.coming = nil
	for _, t := range full {
		p.fail(c, t.Worker, t.Id, api.ErrFull)
	}
}

func (p *plain) wake(c int) {
	l := p.labels[c]
	var stay []plainWaiting
	var full, starved []api.Task
	for _, x := range l.waiting {
		if l.fuel == 0 {
			starved = append(starved, x.task)
			continue
		}
		l.fuel--
		if p.future(x.id).State == api.Open {
			stay = append(stay, x)
			continue
		}
		p.tell(c, api.EvWake, x.task.Worker, x.task.Id, 0, 0)
		if !p.push(c, x.task.Worker, x.task) {
			full = append(full, x.task)
		}
	}
	l.waiting = stay
	for _, t := range full {
		p.fail(c, t.Worker, t.Id, api.ErrFull)
	}
	for _, t := range starved {
		p.fail(c, t.Worker, t.Id, api.ErrFuel)
	}
}

func (p *plain) choice(c int) int {
	l := p.labels[c]
	if len(l.picks) > 0 {
		v := int(l.picks[0]) % p.s.Workers
		l.picks = l.picks[1:]
		return v
	}
	l.seed ^= l.seed << 13
	l.seed ^= l.seed >> 7
	l.seed ^= l.seed << 17
	return int(l.seed % uint64(p.s.Workers))
}

func (p *plain) find(c, w int) {
	l := p.labels[c]
	take := func(t api.Task) {
		t.Worker = w
		l.held[w] = &t
		p.tell(c, api.EvTake, w, t.Id, 0, 0)
	}
	if n := len(l.rings[w]); n > 0 {
		t := l.rings[w][n-1]
		l.rings[w] = l.rings[w][:n-1]
		take(t)
		return
	}
	if len(slices.Concat(l.rings...)) == 0 {
		return
	}
	v := p.choice(c)
	if len(l.rings[v]) == 0 {
		p.tell(c, api.EvMiss, w, 0, v, 0)
		return
	}
	n := 1
	if p.s.Parts[c].Half {
		n = (len(l.rings[v]) + 1) / 2
	}
	stolen := l.rings[v][:n]
	l.rings[v] = l.rings[v][n:]
	p.tell(c, api.EvSteal, w, stolen[0].Id, v, n)
	for _, t := range stolen[1:] {
		t.Worker = w
		p.push(c, w, t)
	}
	take(stolen[0])
}

// work is one step of a task that nobody holds any more; it is held again if it goes on.
func (p *plain) work(c, w int, t api.Task) {
	next, o := task.Step(t, p.s.Image)
	l := p.labels[c]
	switch o.Kind {
	case api.Went:
		l.held[w] = &next
	case api.Ended:
		f := p.future(t.Id)
		f.State, f.Value = api.Kept, o.Value
		p.tell(c, api.EvDone, w, t.Id, int(o.Value), 0)
	case api.Failed:
		p.fail(c, w, t.Id, o.Code)
	default:
		pops := map[int]int{api.Input: 1, api.New: 1, api.Read: 1, api.Write: 2, api.Fork: 2, api.Wait: 1, api.Emit: 1, api.Release: 1}
		i := p.s.Image[t.Func][t.Pc]
		rest := len(t.Stack) - pops[i.Op]
		a := p.ask(c, w, t, i, t.Stack[rest:])
		switch {
		case a.code == parks:
			return
		case a.code != api.OK:
			p.fail(c, w, t.Id, a.code)
		case a.to >= 0:
			y := p.join(c, a.to)
			if !p.flows(y, t.Clear) {
				p.fail(c, w, t.Id, api.ErrClear)
				return
			}
			p.tell(c, api.EvLeave, w, t.Id, y, 0)
			t.Label = y
			p.labels[y].coming = append(p.labels[y].coming, plainComing{p.round, t})
		default:
			t.Stack = append(slices.Clone(t.Stack[:rest]), a.pushes...)
			t.Pc++
			l.held[w] = &t
		}
	}
}

const parks api.Errno = -1

// asked is one instruction of a task at label c, performed by worker w.
type asked struct {
	*plain
	c, w  int
	task  api.Task
	arg   int
	taken []int32
}

// answer is what the instruction puts on the stack, or the label at which the task must be (if it is not negative), or the error.
type answer struct {
	pushes []int32
	to     int
	code   api.Errno
}

func done(l ...int32) answer {
	return answer{pushes: l, to: -1}
}

func fails(code api.Errno) answer {
	return answer{to: -1, code: code}
}

func (p *plain) ask(c, w int, t api.Task, i api.Instr, taken []int32) answer {
	a := asked{p, c, w, t, int(i.Arg), taken}
	return map[int]func() answer{
		api.Raise: a.raise, api.Input: a.input, api.New: a.create, api.Read: a.read, api.Write: a.write,
		api.Emit: a.emit, api.Fork: a.fork, api.Wait: a.wait, api.Release: a.release, api.Take: a.take,
	}[i.Op]()
}

// at is what l returns if the task is at all of these labels.
func (a asked) at(l func() answer, labels ...int) answer {
	for _, x := range labels {
		if !a.flows(x, a.c) {
			return answer{to: x}
		}
	}
	return l()
}

func (a asked) maySend(label int) bool {
	return a.flows(a.c, label) && a.flows(label, a.task.Clear)
}

// by is the label of the identity on the stack, or -1 if there is none.
func (a asked) by() int {
	if a.taken[0] < 0 || int(a.taken[0]/65536) >= len(a.s.Leq) {
		return -1
	}
	return int(a.taken[0] / 65536)
}

func (a asked) raise() answer {
	return a.at(func() answer { return done() }, a.arg)
}

func (a asked) input() answer {
	return a.at(func() answer {
		in, n := a.s.Parts[a.arg].Inputs, int(a.taken[0])
		if n < 0 || n >= len(in) {
			return fails(api.ErrNone)
		}
		return done(in[n])
	}, a.arg)
}

func (a asked) create() answer {
	l := a.labels[a.c]
	if !a.maySend(a.arg) {
		return fails(api.ErrLabel)
	}
	if len(l.refs) >= a.s.Parts[a.c].Refs {
		return fails(api.ErrQuota)
	}
	l.refs = append(l.refs, api.Ref{Label: a.arg, Value: a.taken[0]})
	return done(int32(a.c*65536 + len(l.refs) - 1))
}

func (a asked) read() answer {
	if a.by() < 0 {
		return fails(api.ErrNone)
	}
	return a.at(func() answer {
		r := a.ref(a.taken[0])
		if r == nil {
			return fails(api.ErrNone)
		}
		return a.at(func() answer { return done(r.Value) }, r.Label)
	}, a.by())
}

func (a asked) write() answer {
	if a.by() < 0 {
		return fails(api.ErrNone)
	}
	if !a.flows(a.by(), a.c) {
		return fails(api.ErrLabel)
	}
	r := a.ref(a.taken[0])
	if r == nil {
		return fails(api.ErrNone)
	}
	if !a.maySend(r.Label) {
		return fails(api.ErrLabel)
	}
	r.Value = a.taken[1]
	return done()
}

func (a asked) emit() answer {
	if !a.maySend(a.arg) {
		return fails(api.ErrLabel)
	}
	a.tell(a.arg, api.EvEmit, a.w, a.task.Id, int(a.taken[0]), 0)
	return done()
}

func (a asked) fork() answer {
	label := int(a.taken[0])
	if !a.maySend(label) {
		return fails(api.ErrLabel)
	}
	if len(a.labels[a.c].rings[a.w]) == a.s.Parts[a.c].Ring {
		return fails(api.ErrFull)
	}
	id, ok := a.promise(a.c, label)
	if !ok {
		return fails(api.ErrQuota)
	}
	a.tell(a.c, api.EvFork, a.w, a.task.Id, int(id), 0)
	a.push(a.c, a.w, api.Task{Id: id, Func: a.arg, Vars: [4]int32{a.taken[1]}, Label: a.c, Clear: label, Privs: a.task.Privs, Worker: a.w})
	return done(id)
}

func (a asked) wait() answer {
	if a.by() < 0 {
		return fails(api.ErrNone)
	}
	return a.at(func() answer {
		f := a.future(a.taken[0])
		if f == nil {
			return fails(api.ErrNone)
		}
		return a.at(func() answer { return a.result(f) }, f.Label)
	}, a.by())
}

func (a asked) result(f *api.Future) answer {
	if f.State == api.Kept {
		return done(f.Value)
	}
	if f.State == api.Broken {
		return fails(api.ErrChild)
	}
	a.tell(a.c, api.EvPark, a.w, a.task.Id, int(a.taken[0]), 0)
	l := a.labels[a.c]
	l.waiting = append(l.waiting, plainWaiting{a.task, a.taken[0]})
	return fails(parks)
}

func (a asked) release() answer {
	g, use := a.s.Gates[a.arg], [2]int{a.arg, a.c}
	if !a.flows(a.c, g.From) || a.task.Privs|g.Need != a.task.Privs || a.used[use] >= g.Quota {
		return done(0)
	}
	a.used[use]++
	a.pending = append(a.pending, api.Record{Gate: a.arg, To: g.To, Value: a.taken[0], By: a.task.Id})
	return done(1)
}

func (a asked) take() answer {
	to := a.s.Gates[a.arg].To
	if !a.flows(a.c, to) {
		return fails(api.ErrLabel)
	}
	return a.at(func() answer {
		if len(a.ready[a.arg]) == 0 {
			return done(0, 0)
		}
		v := a.ready[a.arg][0]
		a.ready[a.arg] = a.ready[a.arg][1:]
		return done(v, 1)
	}, to)
}

func (p *plain) live() int {
	n := 0
	for _, l := range p.labels {
		n += len(slices.Concat(l.rings...)) + len(l.coming) + len(l.waiting)
		for _, t := range l.held {
			if t != nil {
				n++
			}
		}
	}
	return n
}

// is asks for everything that can be seen of a machine without a step.
func (p *plain) is(t *testing.T, m *machine.Machine, events []api.Event) {
	t.Helper()
	if m.Round() != p.round || m.Live() != p.live() {
		t.Fatalf("Round %d, Live %d; want %d, %d", m.Round(), m.Live(), p.round, p.live())
	}
	r := m.Result()
	if !slices.Equal(r.Events, events) || !slices.Equal(r.Audit, p.audit) || len(r.Futures) != len(p.labels) || len(r.Fuel) != len(p.labels) {
		t.Fatalf("Result: %v; want %v, %v", r, events, p.audit)
	}
	for by, l := range p.labels {
		if r.Fuel[by] != l.fuel || !slices.Equal(r.Futures[by], l.futures) {
			t.Fatalf("Result at label %d: %d, %v; want %d, %v", by, r.Fuel[by], r.Futures[by], l.fuel, l.futures)
		}
		for n := range 10 {
			var ref api.Ref
			var future api.Future
			if n < len(l.refs) {
				ref = l.refs[n]
			}
			if n < len(l.futures) {
				future = l.futures[n]
			}
			id := int32(by*65536 + n)
			a, hasRef := m.Ref(id)
			b, hasFuture := m.Future(id)
			if a != ref || hasRef != (n < len(l.refs)) || b != future || hasFuture != (n < len(l.futures)) {
				t.Fatalf("Ref, Future of %d: %v, %v, %v, %v; want %v, %v", id, a, hasRef, b, hasFuture, ref, future)
			}
		}
	}
}

// TestP26_2_RandomScripts: every round, and in the end everything that can be seen.
func TestP26_2_RandomScripts(t *testing.T) {
	kinds := map[int]int{}
	codes := map[int32]int{}
	released := 0
	for seed := range uint64(10000) {
		s := samples.Script(seed, seed%3 > 0)
		m, err := machine.New(s)
		if err != api.OK {
			t.Fatalf("script %d: %d", seed, err)
		}
		p := newPlain(s)
		p.is(t, m, nil)
		var all []api.Event
		for range 40 + 30*len(s.Table) {
			want := p.step()
			if got := m.Step(); !slices.Equal(got, want) {
				t.Fatalf("script %d, round %d: %v, want %v", seed, p.round-1, got, want)
			}
			all = append(all, want...)
			if p.round%50 == 1 {
				p.is(t, m, all)
			}
		}
		p.is(t, m, all)
		released += len(p.audit)
		for _, e := range all {
			kinds[e.Kind]++
			if e.Kind == api.EvFail {
				codes[e.A]++
			}
		}
	}
	for kind := api.EvTake; kind <= api.EvFail; kind++ {
		if kinds[kind] < 100 {
			t.Errorf("only %d events of kind %d", kinds[kind], kind)
		}
	}
	for _, code := range []api.Errno{api.ErrLabel, api.ErrClear, api.ErrDiv, api.ErrFull, api.ErrQuota, api.ErrFuel, api.ErrNone, api.ErrChild} {
		if codes[int32(code)] < 20 {
			t.Errorf("only %d tasks failed with %d", codes[int32(code)], code)
		}
	}
	t.Log(kinds, codes, released)
	if released < 100 {
		t.Errorf("only %d values released", released)
	}

}
