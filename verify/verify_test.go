package verify_test

import (
	"math"
	"slices"
	"strconv"
	"strings"
	"sync"
	"testing"

	"confidant/api"
	"confidant/image"
	"confidant/instr"
	"confidant/ops"
	"confidant/verify"
)

// in is an instruction; without an argument it is 0.
func in(op int, arg ...int32) api.Instr {
	i := api.Instr{Op: op}
	for _, a := range arg {
		i.Arg = a
	}
	return i
}

var (
	push = in(api.Push, 7)
	pop  = in(api.Pop)
	dup  = in(api.Dup)
	add  = in(api.Add)
	ret  = in(api.Ret)
	fail = in(api.Fail, 3)
)

func jump(to int32) api.Instr  { return in(api.Jump, to) }
func jumpz(to int32) api.Instr { return in(api.JumpZ, to) }

// repeated is n times i, and then the rest.
func repeated(i api.Instr, n int, rest ...api.Instr) []api.Instr {
	return append(slices.Repeat([]api.Instr{i}, n), rest...)
}

// scramble yields numbers: the same ones in every run.
func scramble(seed uint64) func(n int) int {
	return func(n int) int {
		seed = seed*6364136223846793005 + 1442695040888963407
		return int(seed>>33) % n
	}
}

// shown is the beginning of a function, for messages.
func shown(f []api.Instr) string {
	var texts []string
	for _, i := range f[:min(len(f), 16)] {
		texts = append(texts, instr.Text(i))
	}
	return strconv.Itoa(len(f)) + " instructions: " + strings.Join(texts, ", ")
}

// checks asks Func with room for every argument that the tests use.
func checks(t *testing.T, f []api.Instr, at int, err api.Errno) {
	t.Helper()
	if gotAt, gotErr := verify.Func(f, 3, 4, 2); gotAt != at || gotErr != err {
		t.Errorf("Func(%s): %d, %d; want %d, %d", shown(f), gotAt, gotErr, at, err)
	}
}

// depths asks Depths for the same functions.
func depths(t *testing.T, f []api.Instr, want ...int) {
	t.Helper()
	if got := verify.Depths(f); !slices.Equal(got, want) {
		t.Errorf("Depths(%s): %v, want %v", shown(f), got, want)
	}
}

func TestP8_1_Lengths(t *testing.T) {
	checks(t, nil, 0, api.ErrCode)
	checks(t, []api.Instr{}, 0, api.ErrCode)
	checks(t, []api.Instr{fail}, 0, api.OK)
	checks(t, repeated(fail, api.MaxCode-1), 0, api.OK)
	checks(t, repeated(fail, api.MaxCode), 0, api.OK)
	checks(t, repeated(fail, api.MaxCode+1), 0, api.ErrLong)
	checks(t, repeated(fail, 5000), 0, api.ErrLong)
	depths(t, nil)
	depths(t, []api.Instr{fail}, 0)
	depths(t, repeated(fail, api.MaxCode+1))
	long := verify.Depths(repeated(fail, api.MaxCode))
	if len(long) != api.MaxCode || long[0] != 0 || slices.Max(long[1:]) != -1 {
		t.Errorf("Depths of MaxCode instructions: %v", long)
	}
}

// TestP8_1_TooLongComesFirst: in code that is also wrong in every other way.
func TestP8_1_TooLongComesFirst(t *testing.T) {
	for _, i := range []api.Instr{{}, pop, in(api.Ret, 1), in(api.Load, 4), jump(-1)} {
		checks(t, repeated(fail, 3, repeated(i, api.MaxCode-2)...), 0, api.ErrLong)
		checks(t, repeated(i, api.MaxCode+1), 0, api.ErrLong)
	}
}

func TestP8_1_InvalidInstructions(t *testing.T) {
	for _, i := range []api.Instr{
		{}, {Op: -1}, {Op: api.Fail + 1}, {Op: math.MaxInt}, {Op: math.MinInt}, {Op: 1<<32 + api.Ret},
		in(api.Pop, 1), in(api.Ret, -1), in(api.Label, math.MaxInt32), in(api.Wait, 1),
		jump(-1), jumpz(-1), in(api.Load, -1), in(api.Store, math.MinInt32), in(api.Raise, -1), in(api.Input, -1),
		in(api.New, -1), in(api.Emit, -1), in(api.Fork, -1), in(api.Release, -1), in(api.Take, -1),
	} {
		for before := range 5 {
			checks(t, repeated(fail, before, i, fail), before, api.ErrCode)
			checks(t, repeated(fail, before, i), before, api.ErrCode)
			checks(t, repeated(fail, before, i, i, in(api.Load, 4), api.Instr{}), before, api.ErrCode)
			checks(t, repeated(fail, before, in(api.Load, 4), i), before, api.ErrCode)
			depths(t, repeated(fail, before, i, fail))
		}
	}
}

// TestP8_1_Bounds asks for arguments around each bound, of every instruction that has one.
func TestP8_1_Bounds(t *testing.T) {
	const funcs, labels, gates, size = 3, 5, 7, 11
	bound := map[int]int{
		api.Jump: size, api.JumpZ: size, api.Load: api.Locals, api.Store: api.Locals,
		api.Raise: labels, api.Input: labels, api.New: labels, api.Emit: labels,
		api.Fork: funcs, api.Release: gates, api.Take: gates,
	}
	for op := api.Push; op <= api.Fail; op++ {
		most, bounded := bound[op]
		for _, arg := range []int32{0, 1, 2, 3, 4, 5, 6, 7, 8, 10, 11, 12, 15, 16, 64, 511, 512, 1 << 16, math.MaxInt32} {
			i := in(op, arg)
			want, at := api.OK, 0
			if bounded && int(arg) >= most || !bounded && !instr.Right(i) {
				want, at = api.ErrCode, 9
			}
			// The instruction is never reached: only its argument matters.
			f := repeated(fail, size-2, i, fail)
			if gotAt, got := verify.Func(f, funcs, labels, gates); gotAt != at || got != want {
				t.Errorf("Func with %q: %d, %d; want %d, %d", instr.Text(i), gotAt, got, at, want)
			}
			if op == api.Push || op == api.Fail {
				checks(t, repeated(fail, 2, in(op, -arg), in(op, math.MinInt32)), 0, api.OK)
			}
		}
	}
}

func TestP8_1_NumbersOfFunctionsLabelsAndGates(t *testing.T) {
	numbers := []int{math.MinInt, math.MinInt32, -1, 0, 1, 2, 3, 16, 17, 64, 65, math.MaxInt32, math.MaxInt32 + 1, math.MaxInt}
	for _, op := range []int{api.Fork, api.Raise, api.Input, api.New, api.Emit, api.Release, api.Take} {
		for _, arg := range []int32{0, 1, 2, 15, 16, 64, math.MaxInt32 - 1, math.MaxInt32} {
			for _, n := range numbers {
				f := []api.Instr{fail, in(op, arg), fail}
				want := api.OK
				if int(arg) >= n {
					want = api.ErrCode
				}
				at := 0
				if want != api.OK {
					at = 1
				}
				// The numbers that the instruction does not belong to are not looked at.
				for _, other := range []int{math.MinInt, 0, math.MaxInt} {
					l := map[int][]int{ops.Function: {n, other, other}, ops.Tag: {other, n, other}, ops.Port: {other, other, n}}[ops.Arg(op)]
					if gotAt, got := verify.Func(f, l[0], l[1], l[2]); gotAt != at || got != want {
						t.Errorf("Func of %q with %v: %d, %d; want %d, %d", instr.Text(f[1]), l, gotAt, got, at, want)
					}
				}
			}
		}
	}
	for _, n := range numbers {
		if at, err := verify.Func([]api.Instr{push, ret}, n, n, n); at != 0 || err != api.OK {
			t.Errorf("Func of push, ret with %d: %d, %d", n, at, err)
		}
	}
}

// TestP8_1_ArgumentsComeBeforeTheFlow: a bad instruction is told only where all arguments are right.
func TestP8_1_ArgumentsComeBeforeTheFlow(t *testing.T) {
	checks(t, []api.Instr{add, push, ret}, 0, api.ErrCode)
	checks(t, []api.Instr{add, push, in(api.Load, 4)}, 2, api.ErrCode)
	checks(t, []api.Instr{pop, fail, fail, in(api.Ret, 1), in(api.Load, 4)}, 3, api.ErrCode)
	checks(t, []api.Instr{pop, fail, in(api.Load, 4), in(api.Ret, 1)}, 2, api.ErrCode)
	checks(t, []api.Instr{pop, jump(2)}, 1, api.ErrCode)
}

func TestP8_1_GoodFunctions(t *testing.T) {
	for _, c := range []struct {
		f    []api.Instr
		want []int
	}{
		{[]api.Instr{push, ret}, []int{0, 1}},
		{[]api.Instr{push, dup, add, ret}, []int{0, 1, 2, 1}},
		{[]api.Instr{jump(0)}, []int{0}},
		{[]api.Instr{push, jumpz(0), fail}, []int{0, 1, 0}},
		{[]api.Instr{push, jumpz(2), fail}, []int{0, 1, 0}},
		{[]api.Instr{jump(2), pop, fail, pop}, []int{0, -1, 0, -1}},
		{[]api.Instr{jump(3), push, ret, jump(1)}, []int{0, 0, 1, 0}},
		{[]api.Instr{push, push, jumpz(5), push, jump(6), push, add, ret}, []int{0, 1, 2, 1, 2, 1, 2, 1}},
		{[]api.Instr{in(api.Take, 1), pop, ret}, []int{0, 2, 1}},
		{[]api.Instr{push, push, in(api.Fork, 2), in(api.Wait), ret}, []int{0, 1, 2, 1, 1}},
		{[]api.Instr{push, in(api.New, 3), push, in(api.Write), fail}, []int{0, 1, 1, 2, 0}},
		{[]api.Instr{push, ret, pop, pop, in(api.Eq)}, []int{0, 1, -1, -1, -1}},
		// what stands behind an end is not reached, and may end without one
		{[]api.Instr{push, ret, push}, []int{0, 1, -1}},
		{[]api.Instr{fail, jumpz(0)}, []int{0, -1}},
		{[]api.Instr{jump(0), push}, []int{0, -1}},
	} {
		checks(t, c.f, 0, api.OK)
		depths(t, c.f, c.want...)
	}
}

func TestP8_1_BadFunctions(t *testing.T) {
	for _, c := range []struct {
		f  []api.Instr
		at int
	}{
		// too few values
		{[]api.Instr{add}, 0},
		{[]api.Instr{ret}, 0},
		{[]api.Instr{push, add, ret}, 1},
		{[]api.Instr{push, pop, ret}, 2},
		{[]api.Instr{dup, ret}, 0},
		// the position after the last instruction
		{[]api.Instr{push}, 0},
		{[]api.Instr{push, pop}, 1},
		{[]api.Instr{push, jumpz(0)}, 1},
		{[]api.Instr{jump(1), push}, 1},
		{[]api.Instr{push, jumpz(3), fail, push}, 3},
		// a second depth
		{[]api.Instr{push, jump(0)}, 0},
		{[]api.Instr{push, push, jump(1)}, 1},
		{[]api.Instr{push, jumpz(3), push, fail}, 3},
		{[]api.Instr{push, push, pop, jump(2)}, 2},
		// the smallest of several, though it is found last
		{[]api.Instr{jump(2), add, jump(4), push, jump(1)}, 1},
		{[]api.Instr{push, jumpz(4), push, jump(0), pop}, 0},
		{[]api.Instr{push, push, pop, push, pop, jumpz(1), add}, 1},
	} {
		checks(t, c.f, c.at, api.ErrCode)
		depths(t, c.f)
	}
}

// TestP8_1_BadAtTheEndStillReaches: a JumpZ that reaches the end reaches its Place as well.
func TestP8_1_BadAtTheEndStillReaches(t *testing.T) {
	checks(t, []api.Instr{push, jump(3), add, push, jumpz(2)}, 2, api.ErrCode)
	checks(t, []api.Instr{push, push, jumpz(0)}, 0, api.ErrCode)
	checks(t, []api.Instr{push, push, jumpz(1)}, 2, api.ErrCode)
}

// TestP8_1_BadReachesNothing: where the stack has too few values or too little room, the flow ends.
func TestP8_1_BadReachesNothing(t *testing.T) {
	// jumpz at 2 is reached with depth 0; if it reached 1, that would be bad.
	checks(t, []api.Instr{jump(2), add, jumpz(1)}, 2, api.ErrCode)
	checks(t, []api.Instr{jump(3), pop, fail, pop, jump(1)}, 3, api.ErrCode)
	full := append([]api.Instr{jump(2), fail}, repeated(push, api.MaxStack+1, jump(1))...)
	checks(t, full, 2+api.MaxStack, api.ErrCode)
	// 6 has depth 0 first; reached again with enough values, it still does not reach 1.
	checks(t, []api.Instr{jump(2), add, push, jumpz(6), push, jump(6), jumpz(1), fail}, 6, api.ErrCode)
}

// TestP8_1_OrderOfReaching: only the first depth counts for going on, so the order decides whether the Add at 1 is reached.
func TestP8_1_OrderOfReaching(t *testing.T) {
	start := []api.Instr{jump(2), add, push}
	// What follows the jumpz at 3 is reached before its Place: 8 has depth 1 by 4 and 5 first, and then 0 by 6 and 7.
	checks(t, append(start[:3:3], jumpz(6), push, jump(8), jump(7), jump(8), jumpz(1), fail), 1, api.ErrCode)
	// The other way round: 8 has depth 0 first, and reaches nothing.
	checks(t, append(start[:3:3], jumpz(6), jump(5), jump(8), push, jump(8), jumpz(1), fail), 8, api.ErrCode)
	// The short way is gone before the long one: 8 has depth 1 by 7, and then 0 by 4, 5 and 6.
	checks(t, append(start[:3:3], jumpz(7), jump(5), jump(6), jump(8), push, jumpz(1), fail), 1, api.ErrCode)
	// The same with the long way at the Place: 9 has depth 1 by 4 and 5, and then 0 by 6, 7 and 8.
	checks(t, append(start[:3:3], jumpz(6), push, jump(9), jump(7), jump(8), jump(9), jumpz(1), fail), 1, api.ErrCode)
	// And with depth 0 by the short way.
	checks(t, append(start[:3:3], jumpz(6), jump(5), jump(9), push, jump(8), jump(9), jumpz(1), fail), 9, api.ErrCode)
	// An instruction that comes back to one before it: 2 has depth 0 first, and then 1.
	checks(t, []api.Instr{push, jumpz(4), fail, fail, push, jump(2)}, 2, api.ErrCode)
}

func TestP8_1_MaxStack(t *testing.T) {
	for extra := range 4 {
		at, want := 0, api.OK
		if extra > 0 {
			at, want = api.MaxStack, api.ErrCode
		}
		checks(t, repeated(push, api.MaxStack+extra, ret), at, want)
		checks(t, repeated(in(api.Label), api.MaxStack+extra, ret), at, want)
	}
	full := repeated(push, api.MaxStack)
	checks(t, append(slices.Clone(full), add, push, ret), 0, api.OK)
	checks(t, append(slices.Clone(full), dup, fail), api.MaxStack, api.ErrCode)
	checks(t, append(slices.Clone(full), in(api.Take), fail), api.MaxStack, api.ErrCode)
	checks(t, append(slices.Clone(full), pop, in(api.Take), fail), api.MaxStack+1, api.ErrCode)
	checks(t, append(slices.Clone(full), pop, pop, in(api.Take), fail), 0, api.OK)
	checks(t, append(slices.Clone(full), pop, dup, fail), 0, api.OK)
	// one that takes as many as it puts needs no room
	checks(t, append(slices.Clone(full), in(api.Wait), in(api.Read), in(api.Input), ret), 0, api.OK)
	d := verify.Depths(append(slices.Clone(full), ret))
	for at, n := range d {
		if n != at {
			t.Errorf("Depths of %d times push: %d at %d", len(full), n, at)
		}
	}
}

// TestP8_1_EveryInstruction with every depth, against the lists of chapter 5.
func TestP8_1_EveryInstruction(t *testing.T) {
	for op := api.Push; op <= api.Fail; op++ {
		for n := range api.MaxStack + 1 {
			f := repeated(push, n, in(op), fail)
			if op == api.Jump || op == api.JumpZ {
				f[n].Arg = int32(n + 1)
			}
			left := n - ops.Pops(op)
			after := left + ops.Pushes(op)
			at, want := 0, api.OK
			if left < 0 || after > api.MaxStack {
				at, want = n, api.ErrCode
			}
			checks(t, f, at, want)
			if want != api.OK {
				depths(t, f)
				continue
			}
			if ops.Ends(op) {
				after = -1
			}
			if d := verify.Depths(f); len(d) != n+2 || d[n] != n || d[n+1] != after {
				t.Errorf("Depths of %q at depth %d: %v", instr.Text(f[n]), n, d)
			}
		}
	}
}

// TestP8_1_DepthsHaveAllBounds: an argument of Depths needs only to be right for some numbers of functions, labels and gates.
func TestP8_1_DepthsHaveAllBounds(t *testing.T) {
	const most = math.MaxInt32
	depths(t, []api.Instr{push, push, in(api.Fork, most), in(api.Emit, most), in(api.Take, most), in(api.Release, most), in(api.Input, most), in(api.New, most), in(api.Raise, most), ret}, 0, 1, 2, 1, 0, 2, 2, 2, 2, 2)
	depths(t, []api.Instr{in(api.Load, api.Locals), ret})
	depths(t, []api.Instr{in(api.Load, api.Locals-1), ret}, 0, 1)
	depths(t, []api.Instr{fail, jump(2)})
	depths(t, []api.Instr{fail, jump(1)}, 0, -1)
	depths(t, []api.Instr{fail, jump(most)})
}

// slowFlow is the third part of P8.1, by a list of what is still to be reached: all bad instructions, and the first depths.
func slowFlow(f []api.Instr) (map[int]bool, []int) {
	type arrival struct{ from, at, depth int }
	bad := map[int]bool{}
	first := slices.Repeat([]int{-1}, len(f))
	todo := []arrival{{0, 0, 0}}
	for len(todo) > 0 {
		a := todo[0]
		todo = todo[1:]
		if a.at == len(f) {
			bad[a.from] = true
			continue
		}
		if first[a.at] >= 0 {
			bad[a.at] = bad[a.at] || first[a.at] != a.depth
			continue
		}
		first[a.at] = a.depth
		op := f[a.at].Op
		after := a.depth - ops.Pops(op) + ops.Pushes(op)
		if a.depth < ops.Pops(op) || after > api.MaxStack {
			bad[a.at] = true
			continue
		}
		if op != api.Ret && op != api.Fail && op != api.Jump {
			todo = append(todo, arrival{a.at, a.at + 1, after})
		}
		if op == api.Jump || op == api.JumpZ {
			todo = append(todo, arrival{a.at, int(f[a.at].Arg), after})
		}
	}
	return bad, first
}

// slowFunc is P8.1.
func slowFunc(f []api.Instr, funcs, labels, gates int) (int, api.Errno) {
	if len(f) > api.MaxCode {
		return 0, api.ErrLong
	}
	if len(f) == 0 {
		return 0, api.ErrCode
	}
	for at, i := range f {
		bound, bounded := map[int]int{ops.Place: len(f), ops.Local: 4, ops.Tag: labels, ops.Function: funcs, ops.Port: gates}[ops.Arg(i.Op)]
		if !instr.Right(i) || bounded && int(i.Arg) >= bound {
			return at, api.ErrCode
		}
	}
	bad, _ := slowFlow(f)
	for at := range f {
		if bad[at] {
			return at, api.ErrCode
		}
	}
	return 0, api.OK
}

// asSlow compares Func and Depths with the slow ones, and reports whether f may run.
func asSlow(t *testing.T, f []api.Instr, funcs, labels, gates int) bool {
	t.Helper()
	wantAt, want := slowFunc(f, funcs, labels, gates)
	at, err := verify.Func(f, funcs, labels, gates)
	if at != wantAt || err != want {
		t.Fatalf("Func(%s; %d, %d, %d): %d, %d; want %d, %d", shown(f), funcs, labels, gates, at, err, wantAt, want)
	}
	var wantDepths []int
	if _, err := slowFunc(f, math.MaxInt, math.MaxInt, math.MaxInt); err == api.OK {
		_, wantDepths = slowFlow(f)
	}
	if got := verify.Depths(f); !slices.Equal(got, wantDepths) {
		t.Fatalf("Depths(%s): %v, want %v", shown(f), got, wantDepths)
	}
	return err == api.OK
}

// TestP8_1_AllShortFunctions: all functions of up to five instructions that steer or change the depth.
func TestP8_1_AllShortFunctions(t *testing.T) {
	for size := 1; size <= 5; size++ {
		choices := []api.Instr{push, pop, dup, ret}
		for to := range int32(size) {
			choices = append(choices, jump(to), jumpz(to))
		}
		if size < 4 {
			choices = append(choices, add, fail, in(api.Take), in(api.Write), jump(int32(size)), in(api.Pop, 1), api.Instr{})
		}
		good, all := 0, 0
		f := make([]api.Instr, size)
		var fill func(at int)
		fill = func(at int) {
			if at == size {
				all++
				if asSlow(t, f, 1, 1, 1) {
					good++
				}
				return
			}
			for _, f[at] = range choices {
				fill(at + 1)
			}
		}
		fill(0)
		if good == 0 || good == all {
			t.Errorf("of %d functions of %d instructions, %d may run", all, size, good)
		}
	}
}

// random is a function whose instructions fit their depths mostly.
func random(next func(int) int, size int) []api.Instr {
	f := make([]api.Instr, size)
	depth := 0
	for at := range f {
		f[at] = randomFor(next, size, depth)
		depth += ops.Pushes(f[at].Op) - ops.Pops(f[at].Op)
		if ops.Ends(f[at].Op) || f[at].Op == api.Jump {
			depth = 0
		}
	}
	return f
}

func randomFor(next func(int) int, size, depth int) api.Instr {
	for range 20 {
		i := in(api.Push + next(api.Fail))
		if ops.Arg(i.Op) == ops.Place {
			i.Arg = int32(next(size))
		} else if ops.Arg(i.Op) != ops.NoArg {
			i.Arg = int32(next(3))
		}
		left := depth - ops.Pops(i.Op)
		if next(200) == 0 || left >= 0 && left+ops.Pushes(i.Op) <= api.MaxStack {
			return i
		}
	}
	return push
}

func TestP8_1_ManyFunctions(t *testing.T) {
	next := scramble(8)
	good := 0
	for n := range 40000 {
		size := 1 + next(12)
		if n%100 == 0 {
			size = 1 + next(api.MaxCode)
		}
		if asSlow(t, random(next, size), 1+next(4), 1+next(4), 1+next(4)) {
			good++
		}
	}
	if good < 100 {
		t.Errorf("only %d functions may run", good)
	}
}

// TestP8_1_LongWays: functions of MaxCode instructions that are reached one by one, forward and backward.
func TestP8_1_LongWays(t *testing.T) {
	var back []api.Instr // 0 goes to the last one, and each to the one before it
	for at := range int32(api.MaxCode) {
		back = append(back, jump((at+api.MaxCode-1)%api.MaxCode))
	}
	asSlow(t, back, 1, 1, 1)
	checks(t, back, 0, api.OK)
	var branches []api.Instr // every second one branches to the end
	for len(branches) < api.MaxCode-2 {
		branches = append(branches, push, jumpz(api.MaxCode-2))
	}
	branches = append(branches, push, ret)
	asSlow(t, branches, 1, 1, 1)
	checks(t, branches, 0, api.OK)
	branches[api.MaxCode-3] = jumpz(api.MaxCode - 1)
	asSlow(t, branches, 1, 1, 1)
	checks(t, branches, api.MaxCode-1, api.ErrCode)
	for at := range back {
		back[at] = jumpz(0)
	}
	asSlow(t, back, 1, 1, 1)
}

func TestP8_1_ArgumentsStayAsTheyAre(t *testing.T) {
	whole := repeated(push, 4, ret, add, add)
	before := slices.Clone(whole)
	f := whole[:5]
	got := verify.Depths(f)
	verify.Func(f, 1, 1, 1)
	verify.Image(api.Image{f, f}, 1, 1)
	for at := range got {
		got[at] = 99
	}
	_ = append(got, 99, 99)
	if !slices.Equal(whole, before) {
		t.Errorf("the code was changed: %v", whole)
	}
	depths(t, f, 0, 1, 2, 3, 4)
}

func imageIs(t *testing.T, m api.Image, labels, gates, fn, at int, want api.Errno) {
	t.Helper()
	if gotFn, gotAt, err := verify.Image(m, labels, gates); gotFn != fn || gotAt != at || err != want {
		t.Errorf("Image(%.200q): %d, %d, %d; want %d, %d, %d", image.Text(m), gotFn, gotAt, err, fn, at, want)
	}
}

// imageOf is n functions, each of which fails with its own number.
func imageOf(n int) api.Image {
	var m api.Image
	for k := range n {
		m = append(m, []api.Instr{in(api.Fail, int32(k))})
	}
	return m
}

func TestP8_2_Limits(t *testing.T) {
	imageIs(t, nil, 1, 1, 0, 0, api.ErrCode)
	imageIs(t, api.Image{}, 1, 1, 0, 0, api.ErrCode)
	imageIs(t, imageOf(1), 1, 1, 0, 0, api.OK)
	imageIs(t, imageOf(api.MaxFuncs), 1, 1, 0, 0, api.OK)
	imageIs(t, imageOf(api.MaxFuncs+1), 1, 1, 0, 0, api.ErrLong)
	imageIs(t, imageOf(1000), 1, 1, 0, 0, api.ErrLong)
	imageIs(t, make(api.Image, api.MaxFuncs+1), 1, 1, 0, 0, api.ErrLong)
	imageIs(t, append(imageOf(api.MaxFuncs), []api.Instr{add}), 1, 1, 0, 0, api.ErrLong)
}

// TestP8_2_FirstFunction: the first function with an error is told, with what Func says of it.
func TestP8_2_FirstFunction(t *testing.T) {
	wrongs := []struct {
		f   []api.Instr
		at  int
		err api.Errno
	}{
		{nil, 0, api.ErrCode},
		{repeated(fail, api.MaxCode+1), 0, api.ErrLong},
		{[]api.Instr{push, push, add, in(api.Load, 4)}, 3, api.ErrCode},
		{[]api.Instr{push, pop, pop, fail}, 2, api.ErrCode},
		{[]api.Instr{push}, 0, api.ErrCode},
	}
	for _, first := range wrongs {
		for _, second := range wrongs {
			for _, before := range []int{0, 1, 5, api.MaxFuncs - 3} {
				m := append(imageOf(before), first.f, []api.Instr{fail}, second.f)
				imageIs(t, m, 1, 1, before, first.at, first.err)
			}
			imageIs(t, append(imageOf(api.MaxFuncs-1), first.f, second.f), 1, 1, 0, 0, api.ErrLong)
		}
		imageIs(t, append(imageOf(api.MaxFuncs-1), first.f), 1, 1, api.MaxFuncs-1, first.at, first.err)
	}
}

// TestP8_2_Numbers: labels and gates are given, the functions are those of the image.
func TestP8_2_Numbers(t *testing.T) {
	for n := 1; n <= api.MaxFuncs; n++ {
		for _, arg := range []int{0, n - 1, n, n + 1, api.MaxFuncs, math.MaxInt32} {
			m := imageOf(n)
			m[n-1] = []api.Instr{fail, fail, in(api.Fork, int32(arg))}
			if arg < n {
				imageIs(t, m, 0, 0, 0, 0, api.OK)
			} else {
				imageIs(t, m, math.MaxInt, math.MaxInt, n-1, 2, api.ErrCode)
			}
		}
	}
	for _, n := range []int{math.MinInt, -1, 0, 1, 2, 3, 16, math.MaxInt} {
		for arg := range int32(20) {
			tag := api.Image{{fail}, {fail, in(api.Emit, arg)}}
			port := api.Image{{fail}, {fail, in(api.Take, arg)}}
			if int(arg) < n {
				imageIs(t, tag, n, 0, 0, 0, api.OK)
				imageIs(t, port, 0, n, 0, 0, api.OK)
			} else {
				imageIs(t, tag, n, math.MaxInt, 1, 1, api.ErrCode)
				imageIs(t, port, math.MaxInt, n, 1, 1, api.ErrCode)
			}
		}
	}
}

func TestP8_2_ManyImages(t *testing.T) {
	next := scramble(82)
	good := 0
	for range 20000 {
		m := make(api.Image, 1+next(3))
		for k := range m {
			m[k] = random(next, 1+next(5))
		}
		labels, gates := next(4), next(4)
		fn, at, want := 0, 0, api.OK
		for k := len(m) - 1; k >= 0; k-- {
			if a, e := slowFunc(m[k], len(m), labels, gates); e != api.OK {
				fn, at, want = k, a, e
			}
		}
		imageIs(t, m, labels, gates, fn, at, want)
		if want == api.OK {
			good++
		}
	}
	if good < 100 {
		t.Errorf("only %d images may run", good)
	}
}

// walk goes through code as a task might, and tells what P8.3 rules out.
func walk(t *testing.T, f []api.Instr, next func(int) int) {
	t.Helper()
	want := verify.Depths(f)
	at, depth := 0, 0
	for range 100 {
		if at >= len(f) || want[at] != depth || depth < ops.Pops(f[at].Op) {
			t.Fatalf("in %s a task comes to %d with %d values; Depths: %v", shown(f), at, depth, want)
		}
		i := f[at]
		depth += ops.Pushes(i.Op) - ops.Pops(i.Op)
		if depth > api.MaxStack {
			t.Fatalf("in %s a task has %d values behind %d", shown(f), depth, at)
		}
		if ops.Ends(i.Op) {
			return
		}
		if i.Op == api.Jump || i.Op == api.JumpZ && next(2) == 0 {
			at = int(i.Arg)
		} else {
			at++
		}
	}
}

// TestP8_3_NoEmptyStack: code that Func accepts never takes too much, and never leaves the code.
func TestP8_3_NoEmptyStack(t *testing.T) {
	next := scramble(83)
	walked := 0
	for range 60000 {
		f := random(next, 1+next(20))
		if _, err := verify.Func(f, 3, 3, 3); err != api.OK {
			continue
		}
		walked++
		for range 10 {
			walk(t, f, next)
		}
	}
	if walked < 100 {
		t.Errorf("only %d functions may run", walked)
	}
}

// TestP8_3_FromManyGoroutines: what others ask meanwhile changes nothing.
func TestP8_3_FromManyGoroutines(t *testing.T) {
	var wait sync.WaitGroup
	for worker := range 8 {
		wait.Go(func() {
			next := scramble(uint64(worker % 2))
			for range 2000 {
				f := random(next, 1+next(10))
				at, err := verify.Func(f, 3, 3, 3)
				wantAt, want := slowFunc(f, 3, 3, 3)
				if at != wantAt || err != want {
					t.Errorf("Func(%s): %d, %d; want %d, %d", shown(f), at, err, wantAt, want)
					return
				}
			}
		})
	}
	wait.Wait()
}
