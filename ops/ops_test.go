package ops

import (
	"math"
	"strings"
	"sync"
	"testing"

	"confidant/api"
)

// row is what the chapter says of one instruction.
type row struct {
	op           int
	name         string // as package api writes it
	arg          int
	pops, pushes int
	ends         bool
}

// rows has the instructions in the order of their numbers.
func rows() []row {
	return []row{
		{api.Push, "Push", Number, 0, 1, false},
		{api.Pop, "Pop", NoArg, 1, 0, false},
		{api.Dup, "Dup", NoArg, 1, 2, false},
		{api.Add, "Add", NoArg, 2, 1, false},
		{api.Sub, "Sub", NoArg, 2, 1, false},
		{api.Mul, "Mul", NoArg, 2, 1, false},
		{api.Div, "Div", NoArg, 2, 1, false},
		{api.Less, "Less", NoArg, 2, 1, false},
		{api.Eq, "Eq", NoArg, 2, 1, false},
		{api.Jump, "Jump", Place, 0, 0, false},
		{api.JumpZ, "JumpZ", Place, 1, 0, false},
		{api.Load, "Load", Local, 0, 1, false},
		{api.Store, "Store", Local, 1, 0, false},
		{api.Label, "Label", NoArg, 0, 1, false},
		{api.Raise, "Raise", Tag, 0, 0, false},
		{api.Input, "Input", Tag, 1, 1, false},
		{api.New, "New", Tag, 1, 1, false},
		{api.Read, "Read", NoArg, 1, 1, false},
		{api.Write, "Write", NoArg, 2, 0, false},
		{api.Fork, "Fork", Function, 2, 1, false},
		{api.Wait, "Wait", NoArg, 1, 1, false},
		{api.Emit, "Emit", Tag, 1, 0, false},
		{api.Release, "Release", Port, 1, 1, false},
		{api.Take, "Take", Port, 0, 2, false},
		{api.Ret, "Ret", NoArg, 1, 0, true},
		{api.Fail, "Fail", Number, 0, 0, true},
	}
}

// noInstructions are numbers of no instruction; many would be one, or would panic, if they were cut or used carelessly.
func noInstructions() []int {
	l := []int{math.MinInt, math.MinInt + 1, math.MinInt + 5, math.MinInt32, math.MaxInt32, math.MaxInt, math.MaxInt - 1}
	for n := 1; n <= 2000; n++ {
		l = append(l, -n, api.Fail+n)
	}
	for shift := 8; shift < 63; shift++ {
		for _, r := range rows() {
			l = append(l, 1<<shift+r.op, -1<<shift+r.op)
		}
	}
	return append(l, 0)
}

func TestP5_1_Kinds(t *testing.T) {
	for want, kind := range []int{NoArg, Number, Place, Local, Tag, Function, Port} {
		if kind != want {
			t.Errorf("kind %d: %d", want, kind)
		}
	}
}

func TestP5_1_Known(t *testing.T) {
	for i, r := range rows() {
		if r.op != i+1 {
			t.Errorf("%s stands at %d of the rows", r.name, i)
		}
		if !Known(r.op) {
			t.Errorf("Known(%s): false", r.name)
		}
	}
	if Known(api.Push-1) || Known(api.Fail+1) {
		t.Error("Known beside Push or Fail")
	}
}

func TestP5_1_Arg(t *testing.T) {
	for _, r := range rows() {
		if got := Arg(r.op); got != r.arg {
			t.Errorf("Arg(%s): %d, not %d", r.name, got, r.arg)
		}
	}
}

func TestP5_1_Pops(t *testing.T) {
	for _, r := range rows() {
		if got := Pops(r.op); got != r.pops {
			t.Errorf("Pops(%s): %d, not %d", r.name, got, r.pops)
		}
	}
}

func TestP5_1_Pushes(t *testing.T) {
	for _, r := range rows() {
		if got := Pushes(r.op); got != r.pushes {
			t.Errorf("Pushes(%s): %d, not %d", r.name, got, r.pushes)
		}
	}
}

func TestP5_1_Ends(t *testing.T) {
	for _, r := range rows() {
		if got := Ends(r.op); got != r.ends {
			t.Errorf("Ends(%s): %v", r.name, got)
		}
	}
}

func TestP5_1_OthersHaveNothing(t *testing.T) {
	for _, op := range noInstructions() {
		if Known(op) {
			t.Fatalf("Known(%d): true", op)
		}
		if Arg(op) != 0 || Pops(op) != 0 || Pushes(op) != 0 || Ends(op) {
			t.Fatalf("%d is no instruction, but: %d %d %d %v", op, Arg(op), Pops(op), Pushes(op), Ends(op))
		}
	}
}

func TestP5_2_Name(t *testing.T) {
	for _, r := range rows() {
		if got := Name(r.op); got != strings.ToLower(r.name) {
			t.Errorf("Name(%s): %q", r.name, got)
		}
	}
	if got := Name(1); got != "push" {
		t.Errorf("Name(1): %q", got)
	}
}

func TestP5_2_OthersHaveNoName(t *testing.T) {
	for _, op := range noInstructions() {
		if got := Name(op); got != "" {
			t.Fatalf("Name(%d): %q", op, got)
		}
	}
}

func TestP5_2_Find(t *testing.T) {
	for _, r := range rows() {
		if op, ok := Find(strings.ToLower(r.name)); op != r.op || !ok {
			t.Errorf("Find of %s: %d, %v", r.name, op, ok)
		}
	}
}

// findAsRows compares with a look at each row.
func findAsRows(t *testing.T, name string) {
	t.Helper()
	want, there := 0, false
	for _, r := range rows() {
		if strings.ToLower(r.name) == name {
			want, there = r.op, true
		}
	}
	if op, ok := Find(name); op != want || ok != there {
		t.Fatalf("Find(%q): %d, %v", name, op, ok)
	}
}

func TestP5_2_FindNothing(t *testing.T) {
	for _, name := range []string{
		"", " ", "\x00", "\xff", "0", "1", "-1", "push 5", "push,pop", "PUSH", "jumpZ", "jump z", "ta\u212ae", "\u017ftore",
		"noarg", "number", "place", "local", "tag", "function", "port", "known", "halt", "mod", "return",
		strings.Repeat("push", 1<<16), strings.Repeat("\x00", 1<<16),
	} {
		if op, ok := Find(name); op != 0 || ok {
			t.Errorf("Find(%.20q): %d, %v", name, op, ok)
		}
	}
	for _, r := range rows() {
		findAsRows(t, r.name)
		findAsRows(t, strings.ToUpper(r.name))
	}
}

// TestP5_2_FindShortNames asks for every string of up to three small letters.
func TestP5_2_FindShortNames(t *testing.T) {
	short := []string{""}
	for range 3 {
		for _, s := range short {
			for c := 'a'; c <= 'z'; c++ {
				short = append(short, s+string(c))
			}
		}
	}
	for _, s := range short {
		findAsRows(t, s)
	}
}

// TestP5_2_FindNearNames asks for all that is one byte away from a name.
func TestP5_2_FindNearNames(t *testing.T) {
	for _, r := range rows() {
		name := strings.ToLower(r.name)
		for i := range len(name) + 1 {
			for b := range 256 {
				findAsRows(t, name[:i]+string([]byte{byte(b)})+name[i:])
			}
			if i == len(name) {
				continue
			}
			findAsRows(t, name[:i]+name[i+1:])
			for b := range 256 {
				findAsRows(t, name[:i]+string([]byte{byte(b)})+name[i+1:])
			}
		}
	}
}

// TestP5_2_FindOfName goes from numbers to names and back.
func TestP5_2_FindOfName(t *testing.T) {
	for op := -300; op <= 300; op++ {
		got, ok := Find(Name(op))
		if ok != Known(op) || ok && got != op {
			t.Errorf("Find(Name(%d)): %d, %v", op, got, ok)
		}
	}
}

func told(op int) row {
	found, _ := Find(Name(op))
	return row{found, Name(op), Arg(op), Pops(op), Pushes(op), Ends(op)}
}

// TestP5_3_FixedByTheOp asks from several goroutines, up and down: what was asked before changes nothing.
func TestP5_3_FixedByTheOp(t *testing.T) {
	first := map[int]row{}
	for op := -3; op <= api.Fail+3; op++ {
		first[op] = told(op)
	}
	var wait sync.WaitGroup
	for worker := range 8 {
		wait.Go(func() {
			for i := range 2000 {
				op := (i*(worker+1))%(api.Fail+7) - 3
				if worker%2 == 1 {
					op = api.Fail - op
				}
				if told(op) != first[op] {
					t.Errorf("%d is told as %v, and then otherwise", op, first[op])
					return
				}
			}
		})
	}
	wait.Wait()
}

// TestP5_3_Totals counts over all instructions: no shape is told twice, and none is left out.
func TestP5_3_Totals(t *testing.T) {
	kinds := map[int]int{}
	pops, pushes, ends := 0, 0, 0
	for op := api.Push; op <= api.Fail; op++ {
		kinds[Arg(op)]++
		pops += Pops(op)
		pushes += Pushes(op)
		if Ends(op) {
			ends++
		}
	}
	for kind, want := range []int{13, 2, 2, 2, 4, 1, 2} {
		if kinds[kind] != want {
			t.Errorf("kind %d: %d instructions, not %d", kind, kinds[kind], want)
		}
	}
	if pops != 11+2*8 || pushes != 15+2*2 || ends != 2 {
		t.Errorf("in all: %d taken, %d put, %d end", pops, pushes, ends)
	}
}
