package script_test

import (
	"bytes"
	"math"
	"reflect"
	"slices"
	"sync"
	"testing"

	"confidant/api"
	"confidant/image"
	"confidant/lattice"
	"confidant/pack"
	"confidant/script"
)

// scramble yields numbers: the same ones in every run.
func scramble(seed uint64) func(n int) int {
	return func(n int) int {
		seed = seed*6364136223846793005 + 1442695040888963407
		return int(seed>>33) % n
	}
}

// numbers are some on every side of every limit.
func numbers() []int {
	return []int{math.MinInt, -1 << 32, -1<<32 + 1, -65536, -2, -1, 0, 1, 2, 3, 4, 5, 7, 8, 9, 15, 16, 17, 32, 33, 63, 64, 65, 66, 4095, 4096, 4097, 65535, 65536, 65537, 1<<20 - 1, 1 << 20, 1<<20 + 1, 1 << 32, 1<<32 + 1, math.MaxInt}
}

func in(op int, arg ...int32) api.Instr {
	i := api.Instr{Op: op}
	for _, a := range arg {
		i.Arg = a
	}
	return i
}

// good is a script without errors that has something everywhere; all of it is new.
func good() api.Script {
	return api.Script{
		Leq: lattice.Chain(3),
		Image: api.Image{
			{in(api.Push, 5), in(api.Release, 1), in(api.Ret)},
			{in(api.Load, 3), in(api.JumpZ, 0), in(api.Raise, 2), in(api.Push, -7), in(api.Push, 2), in(api.Fork, 0), in(api.Ret)},
		},
		Gates:   []api.Gate{{From: 2, To: 1, Need: 5, Quota: 6}, {From: 1, To: 0, Need: 0x8000, Quota: 4096}},
		Table:   []int{0, 1, 2, 1},
		Parts:   []api.Part{part(10), part(20), part(30)},
		Workers: 4,
		Starts:  []api.Start{{Func: 1, Arg: -9, Label: 1, Clear: 2, Privs: 3, Worker: 2}, {Func: 0, Arg: 8, Label: 0, Clear: 1, Privs: 0x8001, Worker: 3}, {Label: 1, Clear: 1}},
		Rounds:  500,
	}
}

func part(n int) api.Part {
	return api.Part{Ring: n + 1, Half: n != 20, Fuel: n * 1000, Refs: n + 2, Futures: n + 3, Inputs: []int32{int32(n), -1, math.MinInt32}, Picks: []byte{byte(n), 255, 0}, Seed: uint64(n)}
}

// least is the smallest script without errors.
func least() api.Script {
	return api.Script{Leq: lattice.Chain(1), Image: api.Image{{in(api.Fail)}}, Table: []int{0}, Parts: []api.Part{{Ring: 1}}, Workers: 1}
}

// same goes by the language's own comparison, but for nil and empty.
func same(a, b api.Script) bool {
	return reflect.DeepEqual(filled(a), filled(b))
}

// filled has no nil slices.
func filled(s api.Script) api.Script {
	s.Leq = append([][]bool{}, s.Leq...)
	for n, row := range s.Leq {
		s.Leq[n] = append([]bool{}, row...)
	}
	s.Image = append(api.Image{}, s.Image...)
	for n, f := range s.Image {
		s.Image[n] = append([]api.Instr{}, f...)
	}
	s.Gates = append([]api.Gate{}, s.Gates...)
	s.Table = append([]int{}, s.Table...)
	s.Starts = append([]api.Start{}, s.Starts...)
	s.Parts = append([]api.Part{}, s.Parts...)
	for n, p := range s.Parts {
		s.Parts[n].Inputs = append([]int32{}, p.Inputs...)
		s.Parts[n].Picks = append([]byte{}, p.Picks...)
	}
	return s
}

// checks asks for the error of a script, and for what follows from it.
func checks(t *testing.T, s api.Script, want api.Errno) {
	t.Helper()
	before := filled(s)
	if got := script.Check(s); got != want {
		t.Errorf("Check(%v): %d, want %d", s, got, want)
	}
	b, err := script.Put(s)
	if err != want || (want != api.OK) != (b == nil) {
		t.Errorf("Put(%v): %v, %d, want %d", s, b, err, want)
	}
	if !same(s, before) {
		t.Errorf("the script is now %v, it was %v", s, before)
	}
	if want != api.OK {
		return
	}
	if !bytes.Equal(b, bytesOf(fieldsOf(s))) {
		t.Errorf("Put(%v): %v, want %v", s, b, bytesOf(fieldsOf(s)))
	}
	reads(t, b, s)
}

// reads asks for a script.
func reads(t *testing.T, b []byte, want api.Script) {
	t.Helper()
	before := bytes.Clone(b)
	if got, err := script.Read(b); !same(got, want) || err != api.OK {
		t.Errorf("Read(%v): %v, %d; want %v", b, got, err, want)
	}
	if !bytes.Equal(b, before) {
		t.Errorf("the bytes are now %v, they were %v", b, before)
	}
}

// refuses asks for an error.
func refuses(t *testing.T, b []byte, want api.Errno) {
	t.Helper()
	if got, err := script.Read(b); !reflect.DeepEqual(got, api.Script{}) || err != want {
		t.Errorf("Read(%v): %v, %d; want error %d", b, got, err, want)
	}
}

// changed checks a good script with a change.
func changed(t *testing.T, want api.Errno, change func(s *api.Script)) {
	t.Helper()
	s := good()
	change(&s)
	checks(t, s, want)
	// the bytes of a script with an error, if its numbers fit
	if want != api.OK && encodable(s) {
		refuses(t, bytesOf(fieldsOf(s)), want)
	}
}

// errorIf is OK or the error.
func errorIf(is bool, err api.Errno) api.Errno {
	if is {
		return err
	}
	return api.OK
}

func TestP25_1_Good(t *testing.T) {
	checks(t, good(), api.OK)
	checks(t, least(), api.OK)
	checks(t, api.Script{}, api.ErrLattice)
}

func TestP25_1_Lattice(t *testing.T) {
	for _, leq := range [][][]bool{nil, {}, {{}}, {nil}, {{false}}, {{true, true}}, {{true}, {true}}, {{true, true}, {true, true}}, {{true, false}, {false, true}}, {{true, true, false}, {false, true, true}, {false, false, true}}, slices.Repeat([][]bool{make([]bool, 17)}, 17)} {
		changed(t, api.ErrLattice, func(s *api.Script) { s.Leq = leq })
	}
	for _, leq := range [][][]bool{lattice.Powers(0), lattice.Powers(2), lattice.Chain(16), lattice.Powers(4)} {
		changed(t, api.OK, func(s *api.Script) {
			s.Leq, s.Table, s.Gates, s.Starts, s.Parts = leq, []int{0}, nil, nil, slices.Repeat([]api.Part{part(1)}, len(leq))
			s.Image = least().Image
		})
	}
}

// TestP25_1_Code: the limits of image.Put, and all that verify.Image finds, for the numbers of labels and gates.
func TestP25_1_Code(t *testing.T) {
	code := func(want api.Errno, f ...[]api.Instr) {
		t.Helper()
		changed(t, want, func(s *api.Script) { s.Image, s.Starts = f, nil })
	}
	ok, bad := []api.Instr{in(api.Fail)}, []api.Instr{in(api.Add)}
	long := slices.Repeat(ok, 513)
	code(api.OK, ok)
	code(api.OK, slices.Repeat(ok, 512))
	code(api.OK, slices.Repeat([][]api.Instr{ok}, 64)...)
	code(api.ErrLong, slices.Repeat([][]api.Instr{ok}, 65)...)
	code(api.ErrLong, long)
	code(api.ErrLong, ok, long)
	code(api.ErrLong, bad, long)
	code(api.ErrLong, nil, long)
	code(api.ErrLong, []api.Instr{{}}, long)
	code(api.ErrLong, slices.Repeat([][]api.Instr{bad}, 65)...)
	code(api.ErrCode)
	code(api.ErrCode, nil)
	code(api.ErrCode, ok, nil)
	code(api.ErrCode, bad)
	code(api.ErrCode, ok, bad)
	code(api.ErrCode, []api.Instr{{}})
	code(api.ErrCode, []api.Instr{{Op: 27}})
	code(api.ErrCode, []api.Instr{in(api.Push, 1)})
	code(api.ErrCode, []api.Instr{in(api.Label, 1), in(api.Ret)})
	for n := range int32(6) {
		code(errorIf(n >= 3, api.ErrCode), []api.Instr{in(api.Raise, n), in(api.Fail)})
		code(errorIf(n >= 2, api.ErrCode), []api.Instr{in(api.Take, n), in(api.Fail)})
		code(errorIf(n >= 1, api.ErrCode), []api.Instr{in(api.Push), in(api.Dup), in(api.Fork, n), in(api.Ret)})
		code(errorIf(n >= 2, api.ErrCode), []api.Instr{in(api.Push), in(api.Dup), in(api.Fork, n), in(api.Ret)}, ok)
		code(errorIf(n >= 4, api.ErrCode), []api.Instr{in(api.Load, n), in(api.Ret)})
	}
	// the gates count even if there are too many of them
	changed(t, api.ErrGate, func(s *api.Script) {
		s.Gates, s.Image = make([]api.Gate, 17), api.Image{{in(api.Take, 16), in(api.Fail)}, ok}
	})
	changed(t, api.ErrCode, func(s *api.Script) {
		s.Gates, s.Image = make([]api.Gate, 17), api.Image{{in(api.Take, 17), in(api.Fail)}, ok}
	})
}

func TestP25_1_Gates(t *testing.T) {
	for _, n := range numbers() {
		changed(t, errorIf(n < 0 || n > 2, api.ErrGate), func(s *api.Script) { s.Gates[1].From = n })
		changed(t, errorIf(n < 0 || n > 2, api.ErrGate), func(s *api.Script) { s.Gates[0].To = n })
		changed(t, errorIf(n < 0 || n > 4096, api.ErrGate), func(s *api.Script) { s.Gates[1].Quota = n })
	}
	for bit := range 32 {
		changed(t, errorIf(bit > 15, api.ErrGate), func(s *api.Script) { s.Gates[1].Need = 1 << bit })
	}
	for _, n := range []int{2, 15, 16, 17, 18, 64} {
		changed(t, errorIf(n > 16, api.ErrGate), func(s *api.Script) { s.Gates = make([]api.Gate, n) })
		changed(t, api.ErrGate, func(s *api.Script) { s.Gates = append(make([]api.Gate, n), api.Gate{From: 3}) })
	}
	changed(t, api.OK, func(s *api.Script) { s.Gates, s.Image[0][1] = nil, in(api.Fail) })
}

func TestP25_1_Table(t *testing.T) {
	for _, n := range numbers() {
		changed(t, errorIf(n < 0 || n > 2, api.ErrTable), func(s *api.Script) { s.Table[3] = n })
		changed(t, errorIf(n < 0 || n > 2, api.ErrTable), func(s *api.Script) { s.Table = []int{n} })
	}
	for _, n := range []int{0, 1, 2, 63, 64, 65, 66, 1000} {
		changed(t, errorIf(n < 1 || n > 64, api.ErrTable), func(s *api.Script) { s.Table = make([]int, n) })
	}
}

func TestP25_1_Parts(t *testing.T) {
	for _, n := range numbers() {
		changed(t, errorIf(n < 1 || n > 8, api.ErrPart), func(s *api.Script) { s.Workers, s.Starts = n, nil })
		for k := range 3 {
			changed(t, errorIf(n < 1 || n > 64, api.ErrPart), func(s *api.Script) { s.Parts[k].Ring, s.Starts = n, nil })
			changed(t, errorIf(n < 0 || n > 1<<20, api.ErrPart), func(s *api.Script) { s.Parts[k].Fuel = n })
			changed(t, errorIf(n < 0 || n > 4096, api.ErrPart), func(s *api.Script) { s.Parts[k].Refs = n })
			changed(t, errorIf(n < 0 || n > 4096, api.ErrPart), func(s *api.Script) { s.Parts[k].Futures, s.Starts = n, nil })
		}
	}
	for _, n := range []int{0, 1, 63, 64, 65, 1023, 1024, 1025} {
		changed(t, errorIf(n > 64, api.ErrPart), func(s *api.Script) { s.Parts[2].Inputs = make([]int32, n) })
		changed(t, errorIf(n > 1024, api.ErrPart), func(s *api.Script) { s.Parts[2].Picks = make([]byte, n) })
	}
	for _, n := range []int{0, 1, 2, 3, 4, 16, 17} {
		s := good()
		s.Parts = slices.Repeat([]api.Part{part(1)}, n)
		s.Starts = nil
		checks(t, s, errorIf(n != 3, api.ErrPart))
	}
	changed(t, api.OK, func(s *api.Script) { s.Parts[1].Seed = math.MaxUint64 })
}

func TestP25_1_Starts(t *testing.T) {
	for _, n := range numbers() {
		changed(t, errorIf(n < 0 || n > 1, api.ErrStart), func(s *api.Script) { s.Starts[2].Func = n })
		changed(t, errorIf(n < 0 || n > 1, api.ErrStart), func(s *api.Script) { s.Starts[0].Label, s.Starts[0].Clear = n, 1 })
		changed(t, errorIf(n != 2, api.ErrStart), func(s *api.Script) { s.Starts[0].Label, s.Starts[0].Clear = 2, n })
		changed(t, errorIf(n < 0 || n > 2, api.ErrStart), func(s *api.Script) { s.Starts[1].Label, s.Starts[1].Clear = n, n })
		changed(t, errorIf(n < 0 || n > 3, api.ErrStart), func(s *api.Script) { s.Starts[1].Worker = n })
		changed(t, errorIf(n < 0 || n > 65536, api.ErrStart), func(s *api.Script) { s.Rounds = n })
		changed(t, errorIf(n < 0 || n > 65536, api.ErrStart), func(s *api.Script) { s.Rounds, s.Starts = n, nil })
	}
	for bit := range 32 {
		changed(t, errorIf(bit > 15, api.ErrStart), func(s *api.Script) { s.Starts[2].Privs = 1 << bit })
	}
	for _, arg := range []int32{math.MinInt32, -1, 0, 1, math.MaxInt32} {
		changed(t, api.OK, func(s *api.Script) { s.Starts[2].Arg = arg })
	}
	changed(t, api.OK, func(s *api.Script) { s.Starts = nil })
}

// TestP25_1_StartsFlow: every pair of labels of a lattice with labels beside each other.
func TestP25_1_StartsFlow(t *testing.T) {
	leq := lattice.Powers(2)
	for label := range 4 {
		for high := range 4 {
			s := least()
			s.Leq, s.Parts, s.Starts = leq, slices.Repeat([]api.Part{part(1)}, 4), []api.Start{{Label: label, Clear: high}}
			checks(t, s, errorIf(label&high != label, api.ErrStart))
		}
	}
}

// TestP25_1_ManyStarts: at most MaxStarts, and at each label at most as many as it has futures, and room in a ring.
func TestP25_1_ManyStarts(t *testing.T) {
	for _, n := range []int{0, 1, 2, 5, 31, 32, 33, 40} {
		for _, c := range []struct{ futures, ring int }{{4096, 64}, {n, 64}, {n - 1, 64}, {n + 1, n + 1}, {4096, n}, {4096, n - 1}, {0, 64}, {n, n}, {1, 1}, {2, 1}, {1, 2}} {
			if c.futures < 0 || c.ring < 1 {
				continue
			}
			fits := n <= 32 && n <= c.futures && n <= c.ring
			s := good()
			s.Parts[1].Futures, s.Parts[1].Ring = c.futures, c.ring
			s.Starts = slices.Repeat([]api.Start{{Label: 1, Clear: 2, Worker: 1}}, n)
			checks(t, s, errorIf(!fits, api.ErrStart))
			// the worker and the clearance are of no account
			for k := range s.Starts {
				s.Starts[k].Worker, s.Starts[k].Clear = k%4, 1+k%2
			}
			checks(t, s, errorIf(!fits, api.ErrStart))
		}
	}
	for _, n := range []int{16, 17} {
		changed(t, errorIf(n > 16, api.ErrStart), func(s *api.Script) {
			s.Starts = slices.Concat(slices.Repeat([]api.Start{{Label: 0, Clear: 2}}, 11), slices.Repeat([]api.Start{{Label: 2, Clear: 2}}, n-11), slices.Repeat([]api.Start{{Label: 1, Clear: 2}}, 16))
		})
	}
}

// TestP25_1_Order: of two errors, the one that the chapter names first.
func TestP25_1_Order(t *testing.T) {
	faults := []struct {
		err  api.Errno
		make func(s *api.Script)
	}{
		{api.ErrLattice, func(s *api.Script) { s.Leq[0][2] = false }},
		{api.ErrLong, func(s *api.Script) { s.Image = append(s.Image, make([]api.Instr, 513)) }},
		{api.ErrCode, func(s *api.Script) { s.Image = append(api.Image{s.Image[0], s.Image[1], nil}, s.Image[2:]...) }},
		{api.ErrGate, func(s *api.Script) { s.Gates[0].From = -1 }},
		{api.ErrGate, func(s *api.Script) { s.Gates = slices.Repeat(s.Gates, 9) }},
		{api.ErrTable, func(s *api.Script) { s.Table[1] = 99 }},
		{api.ErrPart, func(s *api.Script) { s.Parts[2].Ring = 0 }},
		{api.ErrPart, func(s *api.Script) { s.Parts = append(s.Parts, s.Parts[0]) }},
		{api.ErrPart, func(s *api.Script) { s.Parts = s.Parts[:2] }},
		{api.ErrPart, func(s *api.Script) { s.Workers = 9 }},
		{api.ErrStart, func(s *api.Script) { s.Starts[0].Func = 9 }},
		{api.ErrStart, func(s *api.Script) { s.Starts[2].Label = 9 }},
		{api.ErrStart, func(s *api.Script) { s.Starts = slices.Repeat(s.Starts, 30) }},
		{api.ErrStart, func(s *api.Script) { s.Rounds = -1 }},
	}
	for i, first := range faults {
		changed(t, first.err, first.make)
		for _, second := range faults[i+1:] {
			changed(t, first.err, func(s *api.Script) {
				first.make(s)
				second.make(s)
			})
		}
	}
	changed(t, api.ErrLattice, func(s *api.Script) {
		for _, f := range faults {
			f.make(s)
		}
	})
}

// field is a number of an encoded script and the greatest that may stand in its place, or bytes.
type field struct {
	n, most uint64
	raw     []byte
}

const (
	mostBit  = 1
	mostWord = math.MaxUint32
	mostInt  = math.MaxInt
	mostSeed = math.MaxUint64
)

// fieldsOf is Put as the chapter tells it, but for scripts with errors too.
func fieldsOf(s api.Script) []field {
	var out []field
	add := func(most uint64, l ...uint64) {
		for _, n := range l {
			out = append(out, field{n: n, most: most})
		}
	}
	bit := func(is bool) uint64 {
		if is {
			return 1
		}
		return 0
	}
	signed := func(n int32) uint64 { return (uint64(n) + 1<<32) % (1 << 32) }
	add(mostInt, uint64(len(s.Leq)))
	for _, row := range s.Leq {
		for _, flows := range row {
			add(mostBit, bit(flows))
		}
	}
	code, _ := image.Put(s.Image)
	out = append(out, field{raw: code})
	add(mostInt, uint64(len(s.Gates)))
	for _, g := range s.Gates {
		add(mostInt, uint64(g.From), uint64(g.To))
		add(mostWord, uint64(g.Need))
		add(mostInt, uint64(g.Quota))
	}
	add(mostInt, uint64(len(s.Table)))
	for _, label := range s.Table {
		add(mostInt, uint64(label))
	}
	for _, p := range s.Parts {
		add(mostInt, uint64(p.Ring))
		add(mostBit, bit(p.Half))
		add(mostInt, uint64(p.Fuel), uint64(p.Refs), uint64(p.Futures), uint64(len(p.Inputs)))
		for _, n := range p.Inputs {
			add(mostWord, signed(n))
		}
		add(mostInt, uint64(len(p.Picks)))
		out = append(out, field{raw: p.Picks})
		add(mostSeed, p.Seed)
	}
	add(mostInt, uint64(s.Workers), uint64(len(s.Starts)))
	for _, x := range s.Starts {
		add(mostInt, uint64(x.Func))
		add(mostWord, signed(x.Arg))
		add(mostInt, uint64(x.Label), uint64(x.Clear))
		add(mostWord, uint64(x.Privs))
		add(mostInt, uint64(x.Worker))
	}
	add(mostInt, uint64(s.Rounds))
	return out
}

func bytesOf(l []field) []byte {
	var out []byte
	for _, f := range l {
		if f.most == 0 {
			out = append(out, f.raw...)
		} else {
			out = append(out, pack.Put(f.n)...)
		}
	}
	return out
}

// encodable reports whether the numbers of a script, right or not, can be its encoding.
func encodable(s api.Script) bool {
	_, err := image.Put(s.Image)
	square := !slices.ContainsFunc(s.Leq, func(row []bool) bool { return len(row) != len(s.Leq) })
	return err == api.OK && square && len(s.Parts) == len(s.Leq) && !slices.ContainsFunc(fieldsOf(s), func(f field) bool { return f.n > f.most })
}

func TestP25_2_Bytes(t *testing.T) {
	s := api.Script{
		Leq:   [][]bool{{true, true}, {false, true}},
		Image: api.Image{{in(api.Push, 300), in(api.Ret)}},
		Gates: []api.Gate{{From: 1, To: 0, Need: 128, Quota: 3}},
		Table: []int{1, 0, 1},
		Parts: []api.Part{
			{Ring: 4, Half: true, Fuel: 5, Refs: 6, Futures: 7, Inputs: []int32{8, -1}, Picks: []byte{200, 9}, Seed: math.MaxUint64},
			{Ring: 1},
		},
		Workers: 2,
		Starts:  []api.Start{{Func: 0, Arg: -2, Label: 0, Clear: 1, Privs: 16, Worker: 1}},
		Rounds:  300,
	}
	checks(t, s, api.OK)
	want := []byte{
		2, 1, 1, 0, 1,
		1, 2, 1, 0x82, 0x2c, 25,
		1, 1, 0, 0x81, 0, 3,
		3, 1, 0, 1,
		4, 1, 5, 6, 7, 2, 8, 0x8f, 0xff, 0xff, 0xff, 0x7f, 2, 200, 9, 0x81, 0xff, 0xff, 0xff, 0xff, 0xff, 0xff, 0xff, 0xff, 0x7f,
		1, 0, 0, 0, 0, 0, 0, 0,
		2,
		1, 0, 0x8f, 0xff, 0xff, 0xff, 0x7e, 0, 1, 16, 1,
		0x82, 0x2c,
	}
	if got, err := script.Put(s); !bytes.Equal(got, want) || err != api.OK {
		t.Errorf("Put: %v, %d; want %v", got, err, want)
	}
	reads(t, want, s)
}

func TestP25_2_CutOffOrContinued(t *testing.T) {
	for _, s := range []api.Script{good(), least()} {
		b, _ := script.Put(s)
		for n := range b {
			refuses(t, b[:n], api.ErrBytes)
		}
		for c := range 256 {
			refuses(t, append(bytes.Clone(b), byte(c)), api.ErrBytes)
		}
		refuses(t, append(bytes.Clone(b), b...), api.ErrBytes)
	}
	refuses(t, nil, api.ErrBytes)
	refuses(t, []byte{}, api.ErrBytes)
}

// TestP25_2_EachNumber: one more than may stand there, and longer codes of the same number.
func TestP25_2_EachNumber(t *testing.T) {
	l := fieldsOf(good())
	b := bytesOf(l)
	for at, f := range l {
		if f.most == 0 {
			continue
		}
		longer := slices.Concat(bytesOf(l[:at]), []byte{0x80}, bytesOf(l[at:]))
		refuses(t, longer, api.ErrBytes)
		for _, n := range []uint64{f.most + 1, f.most + 2, 1 << 33, 1 << 63, 1<<63 + f.n, 1<<32 + f.n, math.MaxUint64} {
			if n <= f.most {
				continue
			}
			other := slices.Clone(l)
			other[at].n = n
			refuses(t, bytesOf(other), api.ErrBytes)
		}
	}
	reads(t, b, good())
}

// TestP25_2_GreatNumbers: those that fit are read, and then judged by Check.
func TestP25_2_GreatNumbers(t *testing.T) {
	for _, c := range []struct {
		want   api.Errno
		change func(s *api.Script)
	}{
		{api.ErrGate, func(s *api.Script) { s.Gates[0].Need = math.MaxUint32 }}, {api.ErrGate, func(s *api.Script) { s.Gates[0].From = math.MaxInt }},
		{api.ErrGate, func(s *api.Script) { s.Gates[1].Quota = math.MaxInt }}, {api.ErrTable, func(s *api.Script) { s.Table[0] = math.MaxInt }},
		{api.ErrPart, func(s *api.Script) { s.Parts[0].Fuel = math.MaxInt }}, {api.ErrPart, func(s *api.Script) { s.Workers = math.MaxInt }},
		{api.ErrStart, func(s *api.Script) { s.Starts[0].Privs = math.MaxUint32 }}, {api.ErrStart, func(s *api.Script) { s.Rounds = math.MaxInt }},
		{api.ErrStart, func(s *api.Script) { s.Starts[1].Func = math.MaxInt }}, {api.ErrLattice, func(s *api.Script) { s.Leq[1][0] = true }},
		{api.ErrPart, func(s *api.Script) { s.Parts[1].Inputs = make([]int32, 5000) }}, {api.ErrPart, func(s *api.Script) { s.Parts[1].Picks = make([]byte, 5000) }},
		{api.ErrTable, func(s *api.Script) { s.Table = make([]int, 5000) }}, {api.ErrGate, func(s *api.Script) { s.Gates = make([]api.Gate, 5000) }},
		{api.ErrStart, func(s *api.Script) { s.Starts = make([]api.Start, 5000) }}, {api.ErrCode, func(s *api.Script) { s.Image = nil }},
		{api.ErrCode, func(s *api.Script) { s.Image = append(s.Image, nil) }}, {api.ErrTable, func(s *api.Script) { s.Table = nil }},
		{api.OK, func(s *api.Script) { s.Parts[1].Seed = math.MaxUint64 }}, {api.OK, func(s *api.Script) { s.Starts[0].Arg = math.MinInt32 }},
	} {
		s := good()
		c.change(&s)
		if c.want == api.OK {
			reads(t, bytesOf(fieldsOf(s)), s)
		} else {
			refuses(t, bytesOf(fieldsOf(s)), c.want)
		}
	}
}

// TestP25_2_ManyLabels: more than a lattice can have are still numbers of a script, if all of theirs are there.
func TestP25_2_ManyLabels(t *testing.T) {
	for _, n := range []int{0, 17, 40} {
		s := good()
		s.Leq, s.Parts = slices.Repeat([][]bool{make([]bool, n)}, n), slices.Repeat([]api.Part{part(1)}, n)
		b := bytesOf(fieldsOf(s))
		refuses(t, b, api.ErrLattice)
		refuses(t, b[:len(b)-1], api.ErrBytes)
	}
	for _, n := range []uint64{1 << 20, 1 << 31, 1 << 32, 1<<63 - 1, 1 << 63, math.MaxUint64} {
		refuses(t, pack.Put(n), api.ErrBytes)
		refuses(t, append(pack.Put(n), make([]byte, 5000)...), api.ErrBytes)
	}
}

// TestP25_2_CodeNotTaken: what image.Take does not accept are no bytes of a script, whatever Check would say of the code.
func TestP25_2_CodeNotTaken(t *testing.T) {
	l := fieldsOf(good())
	at := slices.IndexFunc(l, func(f field) bool { return f.raw != nil })
	for _, c := range []struct {
		code []byte
		want api.Errno
	}{
		{pack.Put(1, 1, 27), api.ErrBytes}, {pack.Put(1, 1, 0), api.ErrBytes}, {pack.Put(1, 1, api.Jump, 1<<31), api.ErrBytes}, {pack.Put(1, 1, api.Push, 1<<32), api.ErrBytes},
		{append(pack.Put(65), bytes.Repeat(pack.Put(1, api.Fail, 0), 65)...), api.ErrBytes}, {append(pack.Put(1, 513), bytes.Repeat(pack.Put(api.Pop), 513)...), api.ErrBytes},
		{append(pack.Put(1, 512), bytes.Repeat(pack.Put(api.Pop), 512)...), api.ErrCode}, {pack.Put(0), api.ErrCode}, {pack.Put(1, 0), api.ErrCode}, {pack.Put(1, 1, api.Add), api.ErrCode},
		{pack.Put(2, 1, api.Fail, 1, 1, api.Fail, 2), api.OK},
	} {
		other := slices.Clone(l)
		other[at].raw = c.code
		b := bytesOf(other)
		if c.want != api.OK {
			refuses(t, b, c.want)
			continue
		}
		if s, err := script.Read(b); err != api.OK || !image.Same(s.Image, api.Image{{in(api.Fail, 1)}, {in(api.Fail, 2)}}) {
			t.Errorf("Read with code %v: %v, %d", c.code, s, err)
		}
	}
	other := slices.Clone(l)
	other[at].raw = pack.Put(1, 1, 27)
	other[1].n = 0 // no lattice either
	refuses(t, bytesOf(other), api.ErrBytes)
}

// randomScript has no errors.
func randomScript(next func(n int) int) api.Script {
	tables := [][][]bool{lattice.Powers(0), lattice.Powers(1), lattice.Powers(2), lattice.Powers(3), lattice.Chain(2), lattice.Chain(5), lattice.Chain(16)}
	s := api.Script{Leq: tables[next(len(tables))], Workers: 1 + next(8), Rounds: next(65537)}
	labels := len(s.Leq)
	for range 1 + next(4) {
		f := make([]api.Instr, next(5))
		for n := range f {
			f[n] = []api.Instr{in(api.Push, int32(next(1000)-500)), in(api.Raise, int32(next(labels))), in(api.Load, int32(next(4))), in(api.Label)}[next(4)]
		}
		s.Image = append(s.Image, append(f, in(api.Fail, int32(next(100)))))
	}
	for range next(5) {
		s.Gates = append(s.Gates, api.Gate{From: next(labels), To: next(labels), Need: uint32(next(65536)), Quota: next(4097)})
	}
	for range 1 + next(10) {
		s.Table = append(s.Table, next(labels))
	}
	for range labels {
		p := api.Part{Ring: 10 + next(55), Half: next(2) == 0, Fuel: next(1<<20 + 1), Refs: next(4097), Futures: 10 + next(4087), Seed: uint64(next(1<<31)) << next(34)}
		for range next(5) {
			p.Inputs = append(p.Inputs, int32(next(1<<31))*int32(next(3)-1))
		}
		for range next(9) {
			p.Picks = append(p.Picks, byte(next(256)))
		}
		s.Parts = append(s.Parts, p)
	}
	for range next(10) {
		label := next(labels)
		s.Starts = append(s.Starts, api.Start{Func: next(len(s.Image)), Arg: int32(next(2000) - 1000), Label: label, Clear: label, Privs: uint32(next(65536)), Worker: next(s.Workers)})
	}
	return s
}

// TestP25_2_Random: back and forth; and with any bit changed, what is read is what is written.
func TestP25_2_Random(t *testing.T) {
	next := scramble(25)
	for range 1000 {
		s := randomScript(next)
		checks(t, s, api.OK)
		b, _ := script.Put(s)
		for range 10 {
			other := bytes.Clone(b)
			other[next(len(b))] ^= 1 << next(8)
			got, err := script.Read(other)
			again, putErr := script.Put(got)
			if err == api.OK && (putErr != api.OK || !bytes.Equal(again, other) || script.Same(got, s)) {
				t.Fatalf("Read(%v): %v; Put %v, %d", other, got, again, putErr)
			}
			if err != api.OK && !reflect.DeepEqual(got, api.Script{}) {
				t.Fatalf("Read(%v): %v, %d", other, got, err)
			}
		}
	}
}

// TestP25_2_SmallBytes: all small bytes behind the table: Ring, Half, Fuel, Refs, Futures, the number of Inputs and of Picks, Seed, Workers, the number of Starts, Rounds.
func TestP25_2_SmallBytes(t *testing.T) {
	b := []byte{1, 1, 1, 1, api.Fail, 0, 0, 1, 0, 10: 0, 19: 0}
	p := b[9:]
	for code := range 177147 {
		for n := range p {
			p[n] = byte(code % 3)
			code /= 3
		}
		s, err := script.Read(b)
		if again, putErr := script.Put(s); err == api.OK && (putErr != api.OK || !bytes.Equal(again, b)) {
			t.Fatalf("Read(%v): %v; Put %v", b, s, again)
		}
		want := p[0] > 0 && p[1] < 2 && p[8] > 0
		if p[5] == 0 && p[6] == 0 && p[9] == 0 && want != (err == api.OK) {
			t.Fatalf("Read(%v): %v, %d", b, s, err)
		}
	}
}

func TestP25_2_Same(t *testing.T) {
	if !script.Same(good(), good()) || !script.Same(api.Script{}, api.Script{}) || !script.Same(least(), least()) || script.Same(good(), least()) || script.Same(least(), api.Script{}) {
		t.Error("Same of good, least and empty scripts")
	}
	empty := api.Script{Leq: [][]bool{}, Image: api.Image{}, Gates: []api.Gate{}, Table: []int{}, Parts: []api.Part{}, Starts: []api.Start{}}
	if !script.Same(api.Script{}, empty) || !script.Same(empty, api.Script{}) {
		t.Error("Same of nil and empty lists: false")
	}
	a, b := api.Script{Leq: [][]bool{nil}, Image: api.Image{nil}, Parts: []api.Part{{}}}, api.Script{Leq: [][]bool{{}}, Image: api.Image{{}}, Parts: []api.Part{{Inputs: []int32{}, Picks: []byte{}}}}
	if !script.Same(a, b) || script.Same(a, api.Script{}) {
		t.Error("Same of nil and empty lists in lists")
	}
	for n, change := range []func(s *api.Script){
		func(s *api.Script) { s.Leq[1][0] = true }, func(s *api.Script) { s.Leq = s.Leq[:2] }, func(s *api.Script) { s.Leq[2] = s.Leq[2][:2] }, func(s *api.Script) { s.Leq = append(s.Leq, nil) },
		func(s *api.Script) { s.Image[1][3].Arg = 7 }, func(s *api.Script) { s.Image[1][3].Op = api.Fail }, func(s *api.Script) { s.Image = s.Image[:1] }, func(s *api.Script) { s.Image[0] = s.Image[0][:2] }, func(s *api.Script) { s.Image = append(s.Image, nil) },
		func(s *api.Script) { s.Gates[1].From++ }, func(s *api.Script) { s.Gates[1].To++ }, func(s *api.Script) { s.Gates[0].Need++ }, func(s *api.Script) { s.Gates[0].Quota++ }, func(s *api.Script) { s.Gates = s.Gates[:1] }, func(s *api.Script) { s.Gates = append(s.Gates, api.Gate{}) },
		func(s *api.Script) { s.Table[3]++ }, func(s *api.Script) { s.Table = s.Table[:3] }, func(s *api.Script) { s.Table = append(s.Table, 0) },
		func(s *api.Script) { s.Parts[2].Ring++ }, func(s *api.Script) { s.Parts[2].Half = !s.Parts[2].Half }, func(s *api.Script) { s.Parts[0].Fuel++ }, func(s *api.Script) { s.Parts[1].Refs++ }, func(s *api.Script) { s.Parts[1].Futures++ },
		func(s *api.Script) { s.Parts[1].Inputs[2]++ }, func(s *api.Script) { s.Parts[1].Inputs = nil }, func(s *api.Script) { s.Parts[1].Inputs = append(s.Parts[1].Inputs, 0) }, func(s *api.Script) { s.Parts[2].Picks[0]++ }, func(s *api.Script) { s.Parts[2].Picks = nil },
		func(s *api.Script) { s.Parts[0].Seed++ }, func(s *api.Script) { s.Parts = s.Parts[:2] }, func(s *api.Script) { s.Parts = append(s.Parts, api.Part{}) },
		func(s *api.Script) { s.Workers++ }, func(s *api.Script) { s.Rounds++ },
		func(s *api.Script) { s.Starts[2].Func++ }, func(s *api.Script) { s.Starts[2].Arg++ }, func(s *api.Script) { s.Starts[2].Label++ }, func(s *api.Script) { s.Starts[2].Clear++ }, func(s *api.Script) { s.Starts[2].Privs++ }, func(s *api.Script) { s.Starts[2].Worker++ }, func(s *api.Script) { s.Starts = s.Starts[:2] }, func(s *api.Script) { s.Starts = append(s.Starts, api.Start{}) },
		func(s *api.Script) { s.Starts[0], s.Starts[1] = s.Starts[1], s.Starts[0] },
	} {
		other := good()
		change(&other)
		if script.Same(good(), other) || script.Same(other, good()) || !script.Same(other, other) {
			t.Errorf("Same with change %d", n)
		}
	}
}

// TestP25_2_NothingShared: no answer has memory in common with an argument or with another part of the answer.
func TestP25_2_NothingShared(t *testing.T) {
	b, _ := script.Put(good())
	want := bytes.Clone(b)
	s, _ := script.Read(b)
	clear(b)
	if !same(s, good()) {
		t.Errorf("the script is now %v", s)
	}
	other, _ := script.Read(want)
	for n := range s.Parts {
		clear(s.Parts[n].Inputs)
		clear(s.Parts[n].Picks)
		_ = append(s.Leq[n], true, true)
		_ = append(s.Parts[n].Inputs[:1], 9)
		if n > 0 && !slices.Equal(s.Leq[n], good().Leq[n]) {
			t.Errorf("row %d is now %v", n, s.Leq[n])
		}
	}
	for _, f := range s.Image {
		clear(f)
	}
	clear(s.Table)
	if !same(other, good()) {
		t.Errorf("another script is now %v", other)
	}
	mine := good()
	again, _ := script.Put(mine)
	clear(again)
	if !same(mine, good()) {
		t.Errorf("the script is now %v", mine)
	}
}

// TestP25_3_AllOrNothing: a script is read with all that it has, or nothing of it.
func TestP25_3_AllOrNothing(t *testing.T) {
	b, _ := script.Put(good())
	for at := range b {
		for _, c := range []byte{0, 1, 2, 3, 0x7f, 0x80, 0xff} {
			other := bytes.Clone(b)
			other[at] = c
			s, err := script.Read(other)
			if again, putErr := script.Put(s); err == api.OK && (putErr != api.OK || !bytes.Equal(again, other)) {
				t.Errorf("Read with %d at %d: %v", c, at, s)
			}
			if err != api.OK && !reflect.DeepEqual(s, api.Script{}) {
				t.Errorf("Read with %d at %d: %v, %d", c, at, s, err)
			}
		}
	}
}

// TestP25_1_SideBySide: the answers are the same in several goroutines.
func TestP25_1_SideBySide(t *testing.T) {
	s := good()
	b, _ := script.Put(s)
	var all sync.WaitGroup
	for range 8 {
		all.Go(func() {
			for range 20 {
				again, err := script.Put(s)
				if back, _ := script.Read(again); err != api.OK || !bytes.Equal(again, b) || !script.Same(back, s) {
					t.Error("another answer")
				}
			}
		})
	}
	all.Wait()
}
