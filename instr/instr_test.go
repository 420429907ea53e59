package instr_test

import (
	"bytes"
	"math"
	"regexp"
	"strconv"
	"strings"
	"sync"
	"testing"

	"confidant/api"
	"confidant/instr"
	"confidant/pack"
)

// Which arguments an instruction may have.
const (
	none = iota
	natural
	any32
)

type row struct {
	op   int
	name string
	args int
}

// rows has all instructions, by chapter 5 and not by package ops.
func rows() []row {
	return []row{
		{api.Push, "push", any32},
		{api.Pop, "pop", none},
		{api.Dup, "dup", none},
		{api.Add, "add", none},
		{api.Sub, "sub", none},
		{api.Mul, "mul", none},
		{api.Div, "div", none},
		{api.Less, "less", none},
		{api.Eq, "eq", none},
		{api.Jump, "jump", natural},
		{api.JumpZ, "jumpz", natural},
		{api.Load, "load", natural},
		{api.Store, "store", natural},
		{api.Label, "label", none},
		{api.Raise, "raise", natural},
		{api.Input, "input", natural},
		{api.New, "new", natural},
		{api.Read, "read", none},
		{api.Write, "write", none},
		{api.Fork, "fork", natural},
		{api.Wait, "wait", none},
		{api.Emit, "emit", natural},
		{api.Release, "release", natural},
		{api.Take, "take", natural},
		{api.Ret, "ret", none},
		{api.Fail, "fail", any32},
	}
}

// someArgs are the numbers around which an argument or its encoding changes.
func someArgs() []int32 {
	l := []int32{0, 1, 5, 9, 10, 99, 300, math.MaxInt32, math.MinInt32}
	for bit := 1; bit < 31; bit++ {
		p := int32(1) << bit
		l = append(l, p-1, p, p+1, -p, -p-1, -p+1)
	}
	return l
}

// noInstructions are numbers of no instruction; many become one if they are cut to fewer bits.
func noInstructions() []int {
	l := []int{0, math.MinInt, math.MaxInt, math.MinInt32, math.MaxInt32}
	for n := 1; n <= 300; n++ {
		l = append(l, -n, api.Fail+n)
	}
	for shift := 7; shift < 63; shift++ {
		for op := api.Push; op <= api.Fail; op++ {
			l = append(l, 1<<shift+op, -1<<shift+op)
		}
	}
	return l
}

// validOnes are instructions of every op, and invalidOnes what is near them.
func validOnes() []api.Instr {
	var l []api.Instr
	for _, r := range rows() {
		for _, arg := range someArgs() {
			if allows(r.args, arg) {
				l = append(l, api.Instr{Op: r.op, Arg: arg})
			}
		}
	}
	return l
}

func invalidOnes() []api.Instr {
	var l []api.Instr
	for _, r := range rows() {
		for _, arg := range someArgs() {
			if !allows(r.args, arg) {
				l = append(l, api.Instr{Op: r.op, Arg: arg})
			}
		}
	}
	for _, op := range noInstructions() {
		l = append(l, api.Instr{Op: op}, api.Instr{Op: op, Arg: 5}, api.Instr{Op: op, Arg: -5})
	}
	return l
}

func allows(args int, arg int32) bool {
	switch args {
	case none:
		return arg == 0
	case natural:
		return arg >= 0
	}
	return true
}

// num is the encoding of a number, by text.
func num(n uint64) string {
	s := string(rune(n % 128))
	for n /= 128; n > 0; n /= 128 {
		s = string([]byte{byte(128 + n%128)}) + s
	}
	return s
}

func argsOf(op int) int {
	for _, r := range rows() {
		if r.op == op {
			return r.args
		}
	}
	return none
}

// slowPut is P6.1 by text.
func slowPut(i api.Instr) string {
	if argsOf(i.Op) == none {
		return num(uint64(i.Op))
	}
	n := int64(i.Arg)
	if n < 0 {
		n += 1 << 32
	}
	return num(uint64(i.Op)) + num(uint64(n))
}

// slowTake looks for the instruction with whose encoding b begins, and for the size of that.
func slowTake(b string) (api.Instr, int, bool) {
	for _, r := range rows() {
		if !strings.HasPrefix(b, string(rune(r.op))) {
			continue
		}
		if r.args == none {
			return api.Instr{Op: r.op}, 1, true
		}
		for size := 2; size <= min(len(b), 6); size++ {
			n := uint64(0)
			for _, c := range []byte(b[1:size]) {
				n = n*128 + uint64(c%128)
			}
			i := api.Instr{Op: r.op, Arg: int32(uint32(n))}
			if n < 1<<32 && num(n) == b[1:size] && allows(r.args, i.Arg) {
				return i, size, true
			}
		}
	}
	return api.Instr{}, 0, false
}

// takeAsSlow reads from b and compares.
func takeAsSlow(t *testing.T, b string) {
	t.Helper()
	want, size, there := slowTake(b)
	r := pack.New([]byte(b))
	if got, ok := instr.Take(r); got != want || ok != there {
		t.Fatalf("Take of %x: %v, %v; want %v, %v", b, got, ok, want, there)
	}
	if there && (r.Left() != len(b)-size || r.Err() != api.OK) {
		t.Fatalf("Take of %x: %d bytes left, error %d", b, r.Left(), r.Err())
	}
}

func TestP6_1_Right(t *testing.T) {
	for _, i := range validOnes() {
		if !instr.Right(i) {
			t.Errorf("Right(%v): false", i)
		}
	}
	for _, i := range invalidOnes() {
		if instr.Right(i) {
			t.Errorf("Right(%v): true", i)
		}
	}
}

func TestP6_1_PutExamples(t *testing.T) {
	for _, c := range []struct {
		i    api.Instr
		want string
	}{
		{api.Instr{Op: api.Push, Arg: 5}, "\x01\x05"},
		{api.Instr{Op: api.Push, Arg: 0}, "\x01\x00"},
		{api.Instr{Op: api.Push, Arg: 300}, "\x01\x82\x2c"},
		{api.Instr{Op: api.Push, Arg: -1}, "\x01\x8f\xff\xff\xff\x7f"},
		{api.Instr{Op: api.Push, Arg: math.MaxInt32}, "\x01\x87\xff\xff\xff\x7f"},
		{api.Instr{Op: api.Push, Arg: math.MinInt32}, "\x01\x88\x80\x80\x80\x00"},
		{api.Instr{Op: api.Pop}, "\x02"},
		{api.Instr{Op: api.Jump, Arg: 511}, "\x0a\x83\x7f"},
		{api.Instr{Op: api.Store, Arg: 3}, "\x0d\x03"},
		{api.Instr{Op: api.Fork, Arg: math.MaxInt32}, "\x14\x87\xff\xff\xff\x7f"},
		{api.Instr{Op: api.Take, Arg: 0}, "\x18\x00"},
		{api.Instr{Op: api.Ret}, "\x19"},
		{api.Instr{Op: api.Fail, Arg: -2}, "\x1a\x8f\xff\xff\xff\x7e"},
	} {
		if got := string(instr.Put(c.i)); got != c.want {
			t.Errorf("Put(%v): %x, want %x", c.i, got, c.want)
		}
	}
}

func TestP6_1_Put(t *testing.T) {
	for _, i := range validOnes() {
		if got := string(instr.Put(i)); got != slowPut(i) {
			t.Errorf("Put(%v): %x, want %x", i, got, slowPut(i))
		}
	}
	for _, i := range invalidOnes() {
		if got := instr.Put(i); len(got) != 0 {
			t.Errorf("Put(%v), which is not valid: %x", i, got)
		}
	}
}

func TestP6_1_PutReturnsNewMemory(t *testing.T) {
	i := api.Instr{Op: api.Push, Arg: 300}
	x := instr.Put(i)
	y := instr.Put(i)
	for at := range x {
		x[at] = 0x7e
	}
	_ = append(x, 0x7e, 0x7e, 0x7e)
	if string(y) != "\x01\x82\x2c" || string(instr.Put(i)) != "\x01\x82\x2c" {
		t.Errorf("Put shares memory: %x", y)
	}
}

func TestP6_1_TakeReadsOneAfterTheOther(t *testing.T) {
	var b []byte
	for _, i := range validOnes() {
		b = append(b, slowPut(i)...)
	}
	b = append(b, "\x85\x07xyz"...)
	r := pack.New(b)
	left := len(b)
	for _, i := range validOnes() {
		left -= len(slowPut(i))
		if got, ok := instr.Take(r); got != i || !ok || r.Left() != left || r.Err() != api.OK {
			t.Fatalf("Take: %v, %v with %d left; want %v with %d", got, ok, r.Left(), i, left)
		}
	}
	if n := r.Num(1000); n != 5*128+7 {
		t.Errorf("what stands behind: %d", n)
	}
}

func TestP6_1_TakeOfInvalidBytes(t *testing.T) {
	for _, b := range []string{
		"", "\x00", "\x1b", "\x7f", "\x00\x05", "\x1b\x05",
		"\x80", "\x80\x01", "\x80\x19", "\x81", "\x81\x01\x05", "\x81\x19",
		// an op that is an instruction if it is cut to fewer bits
		num(1<<7+api.Push) + "\x05", num(1<<8 + api.Ret), num(1<<16+api.Push) + "\x05", num(1<<31 + api.Ret),
		num(1<<32+api.Push) + "\x05", num(1<<32 + api.Ret), num(1<<63 + api.Ret), num(1<<63+api.Push) + "\x05",
		num(math.MaxUint64), num(math.MaxInt64), num(1 << 63), "\xff\xff\xff\xff\xff\xff\xff\xff\xff\xff\x7f",
		// no argument, or a part of it
		"\x01", "\x0a", "\x1a", "\x01\x81", "\x01\x8f\xff\xff\xff", "\x0a\x82",
		// no number
		"\x01\x80", "\x01\x80\x05", "\x0a\x80\x00", "\x01\xff\xff\xff\xff\xff\xff\xff\xff\xff\xff\x7f",
		// an argument of more than 32 bits
		"\x01" + num(1<<32), "\x01" + num(1<<32+5), "\x1a" + num(1<<40), "\x01" + num(math.MaxUint64), "\x0a" + num(1<<32+5), "\x0a" + num(1<<33),
		// a negative one where there can't be one
		"\x0a" + num(1<<31), "\x0a" + num(1<<32-1), "\x0b" + num(1<<32-5), "\x0c" + num(1<<31), "\x0d" + num(1<<32-1),
		"\x0f" + num(1<<31), "\x10" + num(1<<31), "\x11" + num(1<<31), "\x14" + num(1<<31), "\x16" + num(1<<31), "\x17" + num(1<<31), "\x18" + num(1<<31),
	} {
		if i, ok := instr.Take(pack.New([]byte(b))); i != (api.Instr{}) || ok {
			t.Errorf("Take of %x: %v, %v", b, i, ok)
		}
		takeAsSlow(t, b)
	}
}

func TestP6_1_TakeOfAllShortBytes(t *testing.T) {
	for x := range 256 {
		takeAsSlow(t, string([]byte{byte(x)}))
		for y := range 256 {
			takeAsSlow(t, string([]byte{byte(x), byte(y)}))
			for _, z := range []byte{0x00, 0x19, 0x7f, 0x80, 0x81, 0xff} {
				takeAsSlow(t, string([]byte{byte(x), byte(y), z}))
			}
		}
	}
}

func TestP6_1_TakeOfLongArguments(t *testing.T) {
	for _, r := range rows() {
		for _, first := range []byte{0x80, 0x81, 0x87, 0x88, 0x8f, 0x90, 0xff} {
			for size := range 12 {
				tail := bytes.Repeat([]byte{0x80}, size)
				takeAsSlow(t, string([]byte{byte(r.op), first})+string(tail)+"\x00")
				tail = bytes.Repeat([]byte{0xff}, size)
				takeAsSlow(t, string([]byte{byte(r.op), first})+string(tail)+"\x7f")
			}
		}
	}
}

func TestP6_1_TakeOfCutOffBytes(t *testing.T) {
	for _, i := range validOnes() {
		b := slowPut(i)
		for size := range len(b) {
			r := pack.New([]byte(b[:size]))
			if got, ok := instr.Take(r); got != (api.Instr{}) || ok {
				t.Errorf("Take of %x: %v, %v", b[:size], got, ok)
			}
			if r.Err() == api.OK && r.Left() != size {
				t.Errorf("Take of %x: false and no error, but it has moved", b[:size])
			}
		}
	}
}

func TestP6_1_TakeOfNoReader(t *testing.T) {
	if i, ok := instr.Take(nil); i != (api.Instr{}) || ok {
		t.Errorf("Take(nil): %v, %v", i, ok)
	}
}

func TestP6_1_TakeOfAFailedReader(t *testing.T) {
	for _, b := range []string{"\x19\x19\x19", "\x05\x01\x05\x01\x05"} {
		r := pack.New([]byte(b))
		if r.Num(0) != 0 || r.Err() != api.ErrLong {
			t.Fatalf("the reader has not failed: %d", r.Err())
		}
		for range 3 {
			if i, ok := instr.Take(r); i != (api.Instr{}) || ok || r.Left() != 0 || r.Err() == api.OK {
				t.Errorf("Take after an error: %v, %v, %d left, error %d", i, ok, r.Left(), r.Err())
			}
		}
	}
}

func TestP6_2_TextExamples(t *testing.T) {
	for want, i := range map[string]api.Instr{
		"push 5":           {Op: api.Push, Arg: 5},
		"push 0":           {Op: api.Push},
		"push -1":          {Op: api.Push, Arg: -1},
		"push 2147483647":  {Op: api.Push, Arg: math.MaxInt32},
		"push -2147483648": {Op: api.Push, Arg: math.MinInt32},
		"pop":              {Op: api.Pop},
		"jump 10":          {Op: api.Jump, Arg: 10},
		"jumpz 0":          {Op: api.JumpZ},
		"load 3":           {Op: api.Load, Arg: 3},
		"raise 15":         {Op: api.Raise, Arg: 15},
		"fork 63":          {Op: api.Fork, Arg: 63},
		"release 2":        {Op: api.Release, Arg: 2},
		"take 2":           {Op: api.Take, Arg: 2},
		"ret":              {Op: api.Ret},
		"fail 36":          {Op: api.Fail, Arg: 36},
		"fail -7":          {Op: api.Fail, Arg: -7},
	} {
		if got := instr.Text(i); got != want {
			t.Errorf("Text(%v): %q, want %q", i, got, want)
		}
		if got, ok := instr.Parse(want); got != i || !ok {
			t.Errorf("Parse(%q): %v, %v", want, got, ok)
		}
	}
}

// slowText is P6.2 for a valid instruction.
func slowText(i api.Instr) string {
	for _, r := range rows() {
		if r.op == i.Op && r.args == none {
			return r.name
		} else if r.op == i.Op {
			return r.name + " " + strconv.FormatInt(int64(i.Arg), 10)
		}
	}
	return ""
}

func TestP6_2_Text(t *testing.T) {
	for _, i := range validOnes() {
		if got := instr.Text(i); got != slowText(i) {
			t.Errorf("Text(%v): %q, want %q", i, got, slowText(i))
		}
	}
	for _, i := range invalidOnes() {
		if got := instr.Text(i); got != "" {
			t.Errorf("Text(%v), which is not valid: %q", i, got)
		}
	}
}

func TestP6_2_Parse(t *testing.T) {
	for _, i := range validOnes() {
		if got, ok := instr.Parse(slowText(i)); got != i || !ok {
			t.Errorf("Parse(%q): %v, %v", slowText(i), got, ok)
		}
	}
}

func TestP6_2_ParseNothing(t *testing.T) {
	for _, s := range []string{
		"", " ", "  ", "\n", "0", "5", "-", " 5", "func", "nop", "push5", "pushpush", "\x00", "\xff",
		"push", "push ", "push  5", " push 5", "push 5 ", "push 5\n", "push 5\r", "push 5 5", "push\t5", "push\n5", "push\u00a05", "push,5",
		"push +5", "push 05", "push -05", "push 00", "push -0", "push +0", "push --5", "push - 5", "push 5-", "push 5.0", "push 5e0", "push 1_0",
		"push 0x5", "push 0b1", "push 0o7", "push five", "push \uff15", "push \u0665", "push \u22125",
		"push 2147483648", "push -2147483649", "push 4294967295", "push 4294967301", "push -4294967291",
		"push 9223372036854775808", "push 18446744073709551621", "push 99999999999999999999999", "push -99999999999999999999999",
		"push " + strings.Repeat("0", 100000) + "5", "push " + strings.Repeat("9", 100000), strings.Repeat("push ", 100000),
		"jump", "jump ", "jump -1", "jump -0", "jump -2147483648", "jump 2147483648", "jump 4294967295", "jumpZ 1", "jumpz -1", "jump z 1",
		"load -1", "store -1", "raise -1", "input -1", "new -1", "fork -1", "emit -1", "release -1", "take -1",
		"ret ", "ret 0", "ret 5", " ret", "ret\n", "ret\r", "ret\x00", "re", "rett", "pop 1", "pop 0", "add -1", "label 0", "wait 0", "read 0",
		"Push 5", "PUSH 5", "Ret", "RET", "fail", "fail ", "fail +1", "fail 2147483648",
	} {
		if i, ok := instr.Parse(s); i != (api.Instr{}) || ok {
			t.Errorf("Parse(%.40q): %v, %v", s, i, ok)
		}
	}
	for _, r := range rows() {
		bare := r.args == none
		if _, ok := instr.Parse(r.name); ok != bare {
			t.Errorf("Parse(%q): %v", r.name, ok)
		}
		if _, ok := instr.Parse(r.name + " 0"); ok == bare {
			t.Errorf("Parse(%q): %v", r.name+" 0", ok)
		}
		if _, ok := instr.Parse(r.name + " -1"); ok != (r.args == any32) {
			t.Errorf("Parse(%q): %v", r.name+" -1", ok)
		}
	}
}

// slowParse goes by what a text may look like.
func slowParse(s string) (api.Instr, bool) {
	for _, r := range rows() {
		if r.args == none && s == r.name {
			return api.Instr{Op: r.op}, true
		}
		rest, found := strings.CutPrefix(s, r.name+" ")
		if r.args == none || !found || !regexp.MustCompile(`\A(0|-?[1-9][0-9]{0,9})\z`).MatchString(rest) {
			continue
		}
		n, _ := strconv.Atoi(rest)
		if n >= math.MinInt32 && n <= math.MaxInt32 && allows(r.args, int32(n)) {
			return api.Instr{Op: r.op, Arg: int32(n)}, true
		}
	}
	return api.Instr{}, false
}

// TestP6_2_ParseNearTexts asks for what is one byte away from a text.
func TestP6_2_ParseNearTexts(t *testing.T) {
	var texts []string
	for _, r := range rows() {
		texts = append(texts, r.name, r.name+" 0", r.name+" 10", r.name+" -7")
	}
	texts = append(texts, "push 2147483647", "fail -2147483648", "jump 2147483647")
	var bytesOf []string
	for _, c := range []byte("\x00\n\r\t +-._/019:azAZ\x80\xff") {
		bytesOf = append(bytesOf, string([]byte{c}))
	}
	near := func(s string) {
		t.Helper()
		want, there := slowParse(s)
		if got, ok := instr.Parse(s); got != want || ok != there {
			t.Errorf("Parse(%q): %v, %v; want %v, %v", s, got, ok, want, there)
		}
	}
	for _, s := range texts {
		near(s)
		for at := range len(s) + 1 {
			for _, c := range bytesOf {
				near(s[:at] + c + s[at:])
			}
			if at == len(s) {
				continue
			}
			near(s[:at] + s[at+1:])
			for _, c := range bytesOf {
				near(s[:at] + c + s[at+1:])
			}
		}
	}
}

func TestP6_3_DecodingInvertsEncoding(t *testing.T) {
	seen := map[string]api.Instr{}
	for _, i := range append(validOnes(), invalidOnes()...) {
		r := pack.New(instr.Put(i))
		back, ok := instr.Take(r)
		if ok != instr.Right(i) || ok && (back != i || r.Left() != 0 || r.Err() != api.OK) {
			t.Errorf("Take of Put of %v: %v, %v", i, back, ok)
		}
		back, ok = instr.Parse(instr.Text(i))
		if ok != instr.Right(i) || ok && back != i {
			t.Errorf("Parse of Text of %v: %v, %v", i, back, ok)
		}
		for _, s := range []string{"bytes " + string(instr.Put(i)), "text " + instr.Text(i)} {
			if other, there := seen[s]; ok && there && other != i {
				t.Errorf("%v and %v are both %q", i, other, s)
			}
			seen[s] = i
		}
	}
}

// TestP6_3_FromManyGoroutines: what others ask meanwhile changes nothing.
func TestP6_3_FromManyGoroutines(t *testing.T) {
	var wait sync.WaitGroup
	for worker := range 8 {
		wait.Go(func() {
			l := validOnes()
			for n := range l {
				i := l[(n*(2*worker+1))%len(l)]
				back, _ := instr.Take(pack.New(instr.Put(i)))
				again, _ := instr.Parse(instr.Text(i))
				if back != i || again != i {
					t.Errorf("%v came back as %v and %v", i, back, again)
					return
				}
			}
		})
	}
	wait.Wait()
}
