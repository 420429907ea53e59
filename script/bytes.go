package script

import (
	"math"
	"slices"

	"confidant/api"
	"confidant/image"
	"confidant/pack"
	"confidant/rows"
)

// put needs a script without errors.
func put(s api.Script) []byte {
	code, _ := image.Put(s.Image)
	out := ints(len(s.Leq))
	for _, row := range s.Leq {
		out = append(out, bits(row...)...)
	}
	out = append(out, code...)
	out = append(out, rows.Put(s.Gates, putGate)...)
	out = append(out, rows.Put(s.Table, putInt)...)
	for _, p := range s.Parts {
		out = append(out, putPart(p)...)
	}
	out = append(out, ints(s.Workers)...)
	out = append(out, rows.Put(s.Starts, putStart)...)
	return append(out, ints(s.Rounds)...)
}

func putGate(g api.Gate) []byte {
	return slices.Concat(ints(g.From, g.To), putWord(g.Need), ints(g.Quota))
}

func putPart(p api.Part) []byte {
	return slices.Concat(
		ints(p.Ring), bits(p.Half), ints(p.Fuel, p.Refs, p.Futures),
		rows.Put(p.Inputs, putSigned), pack.Lump(p.Picks), pack.Put(p.Seed),
	)
}

func putStart(s api.Start) []byte {
	return slices.Concat(ints(s.Func), putSigned(s.Arg), ints(s.Label, s.Clear), putWord(s.Privs), ints(s.Worker))
}

func putInt(n int) []byte {
	return ints(n)
}

func putWord(n uint32) []byte {
	return pack.Put(uint64(n))
}

// putSigned writes 32 bits in two's complement.
func putSigned(n int32) []byte {
	return putWord(uint32(n))
}

func ints(l ...int) []byte {
	var out []byte
	for _, n := range l {
		out = append(out, pack.Put(uint64(n))...)
	}
	return out
}

func bits(l ...bool) []byte {
	var out []byte
	for _, is := range l {
		n := 0
		if is {
			n = 1
		}
		out = append(out, ints(n)...)
	}
	return out
}

// take reads the numbers of a script up to the end of r; the script may have errors.
func take(r *pack.Reader) (api.Script, bool) {
	var s api.Script
	labels := r.Num(math.MaxInt)
	s.Leq = rows.Some(r, labels, func(r *pack.Reader) []bool { return rows.Some(r, labels, takeBit) })
	code, ok := image.Take(r)
	if !ok {
		return api.Script{}, false
	}
	s.Image = code
	s.Gates = rows.Take(r, takeGate)
	s.Table = rows.Take(r, takeInt)
	s.Parts = rows.Some(r, labels, takePart)
	s.Workers = takeInt(r)
	s.Starts = rows.Take(r, takeStart)
	s.Rounds = takeInt(r)
	return s, r.Err() == api.OK && r.Left() == 0
}

func takeGate(r *pack.Reader) api.Gate {
	return api.Gate{From: takeInt(r), To: takeInt(r), Need: takeWord(r), Quota: takeInt(r)}
}

func takePart(r *pack.Reader) api.Part {
	return api.Part{
		Ring:    takeInt(r),
		Half:    takeBit(r),
		Fuel:    takeInt(r),
		Refs:    takeInt(r),
		Futures: takeInt(r),
		Inputs:  rows.Take(r, takeSigned),
		Picks:   r.Lump(math.MaxInt),
		Seed:    r.Num(math.MaxUint64),
	}
}

func takeStart(r *pack.Reader) api.Start {
	return api.Start{
		Func:   takeInt(r),
		Arg:    takeSigned(r),
		Label:  takeInt(r),
		Clear:  takeInt(r),
		Privs:  takeWord(r),
		Worker: takeInt(r),
	}
}

func takeInt(r *pack.Reader) int {
	return int(r.Num(math.MaxInt))
}

func takeWord(r *pack.Reader) uint32 {
	return uint32(r.Num(math.MaxUint32))
}

func takeSigned(r *pack.Reader) int32 {
	return int32(takeWord(r))
}

func takeBit(r *pack.Reader) bool {
	return r.Num(1) == 1
}
