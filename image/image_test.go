package image_test

import (
	"math"
	"slices"
	"strconv"
	"strings"
	"sync"
	"testing"

	"confidant/api"
	"confidant/image"
	"confidant/instr"
	"confidant/pack"
)

var (
	ret   = api.Instr{Op: api.Ret}
	push5 = api.Instr{Op: api.Push, Arg: 5}
	wrong = api.Instr{Op: api.Ret, Arg: 1}
)

// scramble yields numbers: the same ones in every run.
func scramble(seed uint64) func(n int) int {
	return func(n int) int {
		seed = seed*6364136223846793005 + 1442695040888963407
		return int(seed>>33) % n
	}
}

// repeated is a function that consists of n times i.
func repeated(i api.Instr, n int) []api.Instr {
	var f []api.Instr
	for range n {
		f = append(f, i)
	}
	return f
}

// functions are n functions of one instruction each, all different.
func functions(n int) api.Image {
	var m api.Image
	for k := range n {
		m = append(m, []api.Instr{{Op: api.Push, Arg: int32(k)}})
	}
	return m
}

// someImages are within the limits and valid.
func someImages() []api.Image {
	l := []api.Image{
		nil, {nil}, {nil, nil}, {{ret}}, {{push5, ret}}, {{push5}, {ret}}, {nil, {push5, ret}}, {{push5, ret}, nil}, {{push5}, nil, {ret}},
		functions(api.MaxFuncs - 1), functions(api.MaxFuncs), make(api.Image, api.MaxFuncs),
		{repeated(ret, api.MaxCode-1)}, {repeated(push5, api.MaxCode)}, {repeated(push5, 127)}, {repeated(push5, 128)},
		{repeated(ret, api.MaxCode), {push5}, repeated(push5, api.MaxCode)},
	}
	next := scramble(3)
	for range 200 {
		l = append(l, random(next))
	}
	full := make(api.Image, api.MaxFuncs)
	for k := range full {
		full[k] = repeated(api.Instr{Op: api.Jump, Arg: int32(k)}, api.MaxCode)
	}
	return append(l, full)
}

func random(next func(int) int) api.Image {
	m := make(api.Image, next(6))
	for k := range m {
		for range next(8) {
			i := api.Instr{Op: api.Push + next(api.Fail), Arg: int32(next(1<<31)) >> next(31)}
			if !instr.Right(i) {
				i.Arg = 0
			}
			if i.Op == api.Push || i.Op == api.Fail {
				i.Arg *= int32(next(3)) - 1
			}
			m[k] = append(m[k], i)
		}
	}
	return m
}

// tooLong are images above a limit.
func tooLong() []api.Image {
	return []api.Image{
		make(api.Image, api.MaxFuncs+1), functions(api.MaxFuncs + 1), functions(1000),
		{repeated(ret, api.MaxCode+1)}, {{ret}, repeated(push5, api.MaxCode+1)}, {repeated(ret, api.MaxCode+1), {ret}},
		append(functions(api.MaxFuncs-1), repeated(ret, api.MaxCode+1)), {nil, repeated(ret, 5000), nil},
	}
}

func copied(m api.Image) api.Image {
	var out api.Image
	for _, f := range m {
		out = append(out, slices.Clone(f))
	}
	return out
}

// equal goes by lengths and elements.
func equal(a, b api.Image) bool {
	if len(a) != len(b) {
		return false
	}
	for k := range a {
		if len(a[k]) != len(b[k]) {
			return false
		}
		for n := range a[k] {
			if a[k][n] != b[k][n] {
				return false
			}
		}
	}
	return true
}

// slowPut is P7.1 for a valid image.
func slowPut(m api.Image) string {
	b := pack.Put(uint64(len(m)))
	for _, f := range m {
		b = append(b, pack.Put(uint64(len(f)))...)
		for _, i := range f {
			b = append(b, instr.Put(i)...)
		}
	}
	return string(b)
}

// slowText is P7.2.
func slowText(m api.Image) string {
	var lines []string
	for _, f := range m {
		lines = append(lines, "func\n")
		for _, i := range f {
			lines = append(lines, instr.Text(i)+"\n")
		}
	}
	return strings.Join(lines, "")
}

func TestP7_1_PutExamples(t *testing.T) {
	for _, c := range []struct {
		m    api.Image
		want string
	}{
		{nil, "\x00"},
		{api.Image{}, "\x00"},
		{api.Image{nil}, "\x01\x00"},
		{api.Image{{}, {}}, "\x02\x00\x00"},
		{api.Image{{ret}}, "\x01\x01\x19"},
		{api.Image{{push5, ret}, nil, {{Op: api.Fail, Arg: -1}}}, "\x03\x02\x01\x05\x19\x00\x01\x1a\x8f\xff\xff\xff\x7f"},
		{api.Image{repeated(ret, api.MaxCode)}, "\x01\x84\x00" + strings.Repeat("\x19", 512)},
		{make(api.Image, api.MaxFuncs), "\x40" + strings.Repeat("\x00", 64)},
	} {
		if got, err := image.Put(c.m); string(got) != c.want || err != api.OK {
			t.Errorf("Put(%v): %x, %d; want %x", c.m, got, err, c.want)
		}
	}
}

func TestP7_1_Put(t *testing.T) {
	for _, m := range someImages() {
		if got, err := image.Put(m); string(got) != slowPut(m) || err != api.OK {
			t.Errorf("Put(%v): %x, %d", m, got, err)
		}
	}
}

func putFails(t *testing.T, what string, m api.Image, want api.Errno) {
	t.Helper()
	if got, err := image.Put(m); len(got) != 0 || err != want {
		t.Errorf("Put of %s: %d bytes, error %d; want %d", what, len(got), err, want)
	}
}

func TestP7_1_PutTooLong(t *testing.T) {
	for n, m := range tooLong() {
		putFails(t, "too much "+strconv.Itoa(n), m, api.ErrLong)
	}
}

func TestP7_1_PutOfInvalidInstructions(t *testing.T) {
	for _, i := range []api.Instr{
		{}, {Op: -1}, {Op: api.Fail + 1}, {Op: api.Push + 1<<32, Arg: 5}, {Op: api.Push - 1<<32}, {Op: math.MaxInt}, {Op: math.MinInt},
		wrong, {Op: api.Pop, Arg: -1}, {Op: api.Jump, Arg: -1}, {Op: api.Load, Arg: math.MinInt32}, {Op: api.Fork, Arg: -5}, {Op: api.Take, Arg: -1},
	} {
		putFails(t, "one function", api.Image{{i}}, api.ErrCode)
		putFails(t, "the last instruction", api.Image{{ret, push5, i}}, api.ErrCode)
		putFails(t, "the first instruction", api.Image{{i, push5, ret}}, api.ErrCode)
		putFails(t, "the last function", api.Image{{ret}, nil, {push5}, {i}}, api.ErrCode)
		putFails(t, "a full image", append(functions(api.MaxFuncs-1), append(repeated(ret, api.MaxCode-1), i)), api.ErrCode)
	}
	// what is within its kind is for verify to check
	far := api.Image{{{Op: api.Jump, Arg: 99999}, {Op: api.Load, Arg: 4}, {Op: api.Raise, Arg: 16}, {Op: api.Fork, Arg: 64}, {Op: api.Take, Arg: math.MaxInt32}}}
	if got, err := image.Put(far); string(got) != slowPut(far) || err != api.OK {
		t.Errorf("Put of great arguments: %x, %d", got, err)
	}
}

func TestP7_1_PutTooLongIsFirst(t *testing.T) {
	for n, m := range tooLong() {
		m[0] = append([]api.Instr{wrong}, m[0]...)
		putFails(t, "too much, and a wrong instruction in front "+strconv.Itoa(n), m, api.ErrLong)
		last := len(m) - 1
		m[last] = append(m[last], api.Instr{})
		putFails(t, "too much, and a wrong instruction behind "+strconv.Itoa(n), m, api.ErrLong)
	}
}

func TestP7_1_PutLeavesItsArgumentAlone(t *testing.T) {
	whole := []api.Instr{push5, ret, wrong, wrong}
	rows := api.Image{whole[:2], {ret}, {wrong}}
	m := rows[:2]
	x, _ := image.Put(m)
	y, _ := image.Put(m)
	image.Text(m)
	image.Same(m, m)
	for at := range x {
		x[at] = 0x7e
	}
	_ = append(x, 0x7e, 0x7e, 0x7e)
	if string(y) != "\x02\x02\x01\x05\x19\x01\x19" {
		t.Errorf("Put shares memory: %x", y)
	}
	if !equal(rows, api.Image{{push5, ret}, {ret}, {wrong}}) || whole[2] != wrong || whole[3] != wrong {
		t.Errorf("the image was changed: %v, %v", rows, whole)
	}
}

func TestP7_1_Take(t *testing.T) {
	for _, m := range someImages() {
		r := pack.New([]byte(slowPut(m) + "\x85\x07z"))
		got, ok := image.Take(r)
		if !equal(got, m) || !ok || r.Left() != 3 || r.Err() != api.OK {
			t.Fatalf("Take of %v: %v, %v, %d left, error %d", m, got, ok, r.Left(), r.Err())
		}
		if n := r.Num(1000); n != 5*128+7 {
			t.Fatalf("what stands behind: %d", n)
		}
	}
}

func TestP7_1_TakeReadsOneAfterTheOther(t *testing.T) {
	var s string
	for _, m := range someImages() {
		s += slowPut(m)
	}
	r := pack.New([]byte(s))
	for _, m := range someImages() {
		if got, ok := image.Take(r); !equal(got, m) || !ok {
			t.Fatalf("Take: %v, %v; want %v", got, ok, m)
		}
	}
	if r.Left() != 0 || r.Err() != api.OK {
		t.Errorf("at the end: %d left, error %d", r.Left(), r.Err())
	}
	if m, ok := image.Take(r); len(m) != 0 || ok {
		t.Errorf("past the end: %v, %v", m, ok)
	}
}

func takeFails(t *testing.T, b string) {
	t.Helper()
	if m, ok := image.Take(pack.New([]byte(b))); len(m) != 0 || ok {
		t.Errorf("Take of %d bytes %.40x: %d functions, %v", len(b), b, len(m), ok)
	}
}

func TestP7_1_TakeOfInvalidBytes(t *testing.T) {
	for _, b := range []string{
		"", "\x80", "\x80\x00", "\x81", "\x80\x01\x00",
		"\x01", "\x01\x80", "\x01\x81", "\x01\x80\x01\x19", "\x01\x01", "\x02\x00", "\x02\x01\x19", "\x03\x00\x00",
		"\x01\x01\x00", "\x01\x01\x1b", "\x01\x01\x7f", "\x01\x01\x80", "\x01\x01\x80\x19", "\x01\x01\x81", "\x01\x01\x81\x19",
		"\x01\x01\x01", "\x01\x01\x01\x80", "\x01\x01\x01\x80\x05", "\x01\x01\x01\x90\x80\x80\x80\x00", "\x01\x01\x0a\x8f\xff\xff\xff\x7f",
		"\x01\x02\x19", "\x01\x02\x19\x00", "\x01\x02\x00\x19", "\x02\x01\x19\x01\x00", "\x02\x01\x00\x01\x19", "\x03\x01\x19\x00\x01\x1b",
	} {
		takeFails(t, b)
	}
}

func TestP7_1_TakeTooMuch(t *testing.T) {
	for _, m := range tooLong() {
		takeFails(t, slowPut(m))
	}
	for _, n := range []uint64{api.MaxFuncs + 1, 127, 128, 1<<32 + 1, 1 << 32, 1 << 63, math.MaxInt64, math.MaxUint64} {
		takeFails(t, string(pack.Put(n))+strings.Repeat("\x00", 2000))
	}
	for _, n := range []uint64{api.MaxCode + 1, 1000, 1<<32 + 1, 1 << 32, 1 << 63, math.MaxInt64, math.MaxUint64} {
		takeFails(t, "\x01"+string(pack.Put(n))+strings.Repeat("\x19", 2000))
		takeFails(t, "\x02\x01\x19"+string(pack.Put(n))+strings.Repeat("\x19", 2000))
	}
}

func TestP7_1_TakeOfCutOffBytes(t *testing.T) {
	for _, m := range someImages() {
		s := slowPut(m)
		if len(s) > 200 {
			continue
		}
		for size := range len(s) {
			r := pack.New([]byte(s[:size]))
			if got, ok := image.Take(r); len(got) != 0 || ok {
				t.Errorf("Take of %x: %v, %v", s[:size], got, ok)
			}
			if r.Err() == api.OK && r.Left() != size {
				t.Errorf("Take of %x: false and no error, but it has moved", s[:size])
			}
		}
	}
}

// TestP7_1_TakeOfChangedBytes: what it reads is an image whose Put is what it has read.
func TestP7_1_TakeOfChangedBytes(t *testing.T) {
	read := 0
	try := func(b []byte) {
		t.Helper()
		r := pack.New(b)
		m, ok := image.Take(r)
		if !ok && len(m) != 0 {
			t.Fatalf("Take of %x: false, but %v", b, m)
		}
		if !ok {
			return
		}
		read++
		if back, err := image.Put(m); string(back) != string(b[:len(b)-r.Left()]) || err != api.OK {
			t.Fatalf("Take of %x: %v, whose Put is %x, %d", b, m, back, err)
		}
	}
	for x := range 256 {
		for y := range 256 {
			try([]byte{byte(x), byte(y), 0x19, 0x00, 0x02})
			try([]byte{0x01, byte(x), byte(y), 0x19, 0x00, 0x02})
			try([]byte{0x02, 0x01, byte(x), byte(y), 0x00})
		}
	}
	next := scramble(4)
	for range 20000 {
		b := []byte(slowPut(random(next)))
		b[next(len(b))] = byte(next(256))
		try(b)
	}
	if read < 1000 {
		t.Errorf("only %d of them could be read", read)
	}
}

func TestP7_1_TakeOfNoReader(t *testing.T) {
	if m, ok := image.Take(nil); len(m) != 0 || ok {
		t.Errorf("Take(nil): %v, %v", m, ok)
	}
}

func TestP7_1_TakeOfAFailedReader(t *testing.T) {
	r := pack.New([]byte("\x05\x00\x00\x00\x00"))
	if r.Num(0) != 0 || r.Err() != api.ErrLong {
		t.Fatalf("the reader has not failed: %d", r.Err())
	}
	for range 3 {
		if m, ok := image.Take(r); len(m) != 0 || ok || r.Left() != 0 || r.Err() == api.OK {
			t.Errorf("Take after an error: %v, %v, %d left, error %d", m, ok, r.Left(), r.Err())
		}
	}
}

// checkApart changes and lengthens each function: no other one may change.
func checkApart(t *testing.T, what string, m api.Image) {
	t.Helper()
	want := copied(m)
	for k := range m {
		for n := range m[k] {
			m[k][n] = wrong
		}
		_ = append(m[k], wrong, wrong)
		if !equal(m[k+1:], want[k+1:]) {
			t.Fatalf("%s: functions share memory: %v", what, m)
		}
		copy(m[k], want[k])
	}
	if !equal(m, want) {
		t.Fatalf("%s: functions share memory: %v", what, m)
	}
}

func TestP7_1_TakeReturnsNewMemory(t *testing.T) {
	b := []byte("\x03\x02\x01\x05\x19\x01\x19\x02\x19\x01\x05")
	m, _ := image.Take(pack.New(b))
	other, _ := image.Take(pack.New(b))
	checkApart(t, "Take", m)
	m[0][0] = wrong
	if want := (api.Image{{push5, ret}, {ret}, {ret, push5}}); !equal(other, want) {
		t.Errorf("two images share memory: %v", other)
	}
}

func TestP7_1_Same(t *testing.T) {
	for _, m := range append(someImages(), tooLong()...) {
		if !image.Same(m, m) || !image.Same(m, copied(m)) {
			t.Errorf("Same of %v and a copy: false", m)
		}
	}
	for _, c := range [][2]api.Image{{nil, {}}, {{nil}, {{}}}, {{{ret}, nil}, {{ret}, {}}}} {
		if !image.Same(c[0], c[1]) || !image.Same(c[1], c[0]) {
			t.Errorf("Same of %v and %v: false", c[0], c[1])
		}
	}
	all := someImages()[:60]
	for _, a := range all {
		for _, b := range all {
			if image.Same(a, b) != equal(a, b) {
				t.Errorf("Same of %v and %v: %v", a, b, image.Same(a, b))
			}
		}
	}
}

func TestP7_1_NotSame(t *testing.T) {
	for _, c := range [][2]api.Image{
		{nil, {nil}}, {{nil}, {nil, nil}}, {{nil}, {{ret}}}, {{{ret}}, {{ret}, nil}}, {{{ret}}, {nil, {ret}}},
		{{{ret, push5}}, {{ret}, {push5}}}, {{{ret, push5}}, {{push5, ret}}}, {{{ret}, {push5}}, {{push5}, {ret}}},
		{{{ret}}, {{ret, ret}}}, {{{ret}}, {{wrong}}}, {{{push5}}, {{{Op: api.Push, Arg: 6}}}}, {{{push5}}, {{{Op: api.Fail, Arg: 5}}}},
		{{{{Op: api.Push, Arg: -1}}}, {{{Op: api.Push, Arg: math.MaxInt32}}}},
		{{{{}}}, {{{Op: -1}}}}, {{{{}}}, {nil}}, {{{{Op: 1 << 32}}}, {{{}}}}, // instructions that are not valid are compared, too
		{functions(api.MaxFuncs), functions(api.MaxFuncs + 1)}, {{repeated(ret, 600)}, {repeated(ret, 601)}},
	} {
		if image.Same(c[0], c[1]) || image.Same(c[1], c[0]) {
			t.Errorf("Same of %v and %v: true", c[0], c[1])
		}
	}
}

func TestP7_2_TextExamples(t *testing.T) {
	for want, m := range map[string]api.Image{
		"":                               nil,
		"func\n":                         {nil},
		"func\nfunc\n":                   {nil, {}},
		"func\nret\n":                    {{ret}},
		"func\npush 5\nret\nfunc\nret\n": {{push5, ret}, {ret}},
		"func\nfunc\npush -1\n":          {nil, {{Op: api.Push, Arg: -1}}},
		"func\npush 5\n\nret\n":          {{push5, wrong, ret}}, // Text of what is not valid is empty
		"func\n\n\nfunc\n\n":             {{{}, {Op: -1}}, {{Op: api.Jump, Arg: -1}}},
	} {
		if got := image.Text(m); got != want {
			t.Errorf("Text(%v): %q, want %q", m, got, want)
		}
	}
}

func TestP7_2_Text(t *testing.T) {
	for _, m := range append(someImages(), tooLong()...) {
		if got := image.Text(m); got != slowText(m) {
			t.Errorf("Text(%v): %q", m, got)
		}
	}
}

// parses expects an image, parseFails an error in a line.
func parses(t *testing.T, s string, want api.Image) {
	t.Helper()
	if m, line, err := image.Parse(s); !equal(m, want) || line != 0 || err != api.OK {
		t.Errorf("Parse(%.60q): %v, %d, %d; want %v", s, m, line, err, want)
	}
}

func parseFails(t *testing.T, s string, at int, want api.Errno) {
	t.Helper()
	if m, line, err := image.Parse(s); len(m) != 0 || line != at || err != want {
		t.Errorf("Parse(%.60q): %d functions, line %d, error %d; want line %d, error %d", s, len(m), line, err, at, want)
	}
}

func TestP7_2_ParseExamples(t *testing.T) {
	for s, want := range map[string]api.Image{
		"":                                  nil,
		"\n":                                nil,
		"\n\n\n\n":                          nil,
		"func":                              {nil},
		"func\n":                            {nil},
		"func\nfunc":                        {nil, nil},
		"func\nret":                         {{ret}},
		"func\nret\n":                       {{ret}},
		"func\n\n\nret\n\n":                 {{ret}},
		"\n\nfunc\n\npush 5\n\nret\n\nfunc": {{push5, ret}, nil},
		"func\nfunc\nret\nfunc\n":           {nil, {ret}, nil},
		"func\npush -2147483648\njump 2147483647\nfail -3\ntake 0\n": {{{Op: api.Push, Arg: math.MinInt32}, {Op: api.Jump, Arg: math.MaxInt32}, {Op: api.Fail, Arg: -3}, {Op: api.Take}}},
	} {
		parses(t, s, want)
	}
	parses(t, strings.Repeat("\n", 1<<20)+"func"+strings.Repeat("\n", 1<<20)+"ret", api.Image{{ret}})
}

func TestP7_2_ParseOfNoLine(t *testing.T) {
	for _, bad := range []string{
		" ", "func ", " func", "func\r", "Func", "FUNC", "fun", "funcfunc", "func ret", "func 0", "func\x00", "\x00", "\xff", "\r", "\t", "#", "# ret", "//",
		"push", "push ", "push +5", "push 05", "push -0", "push 5 ", " push 5", "push 2147483648", "push 5;ret", "jump -1", "ret 0", "ret ", "ret\r", "Ret", "nop", "0",
	} {
		parseFails(t, bad, 0, api.ErrCode)
		parseFails(t, bad+"\nfunc\nret", 0, api.ErrCode)
		parseFails(t, "func\n"+bad, 1, api.ErrCode)
		parseFails(t, "func\nret\n"+bad+"\nret\n", 2, api.ErrCode)
		parseFails(t, "\n\nfunc\n\n\npush 5\n\n"+bad+"\nfunc\n", 7, api.ErrCode)
		parseFails(t, "func\nret\nfunc\nret\n"+bad+"\n"+bad, 4, api.ErrCode)
	}
}

func TestP7_2_ParseOfAnInstructionBeforeFunc(t *testing.T) {
	parseFails(t, "ret", 0, api.ErrCode)
	parseFails(t, "ret\nfunc\nret\n", 0, api.ErrCode)
	parseFails(t, "\n\n\npush 5\nfunc", 3, api.ErrCode)
	parseFails(t, "\npush 5\nbad\nfunc", 1, api.ErrCode)
}

func TestP7_2_ParseAtTheLimits(t *testing.T) {
	funcs := strings.Repeat("func\n", api.MaxFuncs)
	parses(t, funcs, make(api.Image, api.MaxFuncs))
	parses(t, funcs+"\n\n", make(api.Image, api.MaxFuncs))
	parses(t, funcs+"ret", append(make(api.Image, api.MaxFuncs-1), []api.Instr{ret}))
	parseFails(t, funcs+"func", api.MaxFuncs, api.ErrLong)
	parseFails(t, funcs+"\n\nfunc\n", api.MaxFuncs+2, api.ErrLong)
	parseFails(t, funcs+"ret\nfunc\nbad", api.MaxFuncs+1, api.ErrLong)
	parseFails(t, funcs+"funk", api.MaxFuncs, api.ErrCode)
	parseFails(t, funcs+"bad\nfunc", api.MaxFuncs, api.ErrCode)
	code := "func\n" + strings.Repeat("ret\n", api.MaxCode)
	full := repeated(ret, api.MaxCode)
	parses(t, code, api.Image{full})
	parses(t, code+"\n\n", api.Image{full})
	parses(t, code+code+"func\npush 5", api.Image{full, full, {push5}})
	parseFails(t, code+"ret", 1+api.MaxCode, api.ErrLong)
	parseFails(t, code+"\n\npush 5\nbad", 3+api.MaxCode, api.ErrLong)
	parseFails(t, code+"bad\nret", 1+api.MaxCode, api.ErrCode)
	parseFails(t, code+"ret 0\nret", 1+api.MaxCode, api.ErrCode)
	parseFails(t, code+code+"ret", 2+2*api.MaxCode, api.ErrLong)
	parseFails(t, "bad\n"+code+"ret", 0, api.ErrCode)
	parseFails(t, "func\n"+code+"ret", 2+api.MaxCode, api.ErrLong)
	all := strings.Repeat(code, api.MaxFuncs)
	parses(t, all, slices.Repeat(api.Image{full}, api.MaxFuncs))
	parseFails(t, all+"func\n", api.MaxFuncs*(1+api.MaxCode), api.ErrLong)
	parseFails(t, all+"ret\n", api.MaxFuncs*(1+api.MaxCode), api.ErrLong)
	parseFails(t, all+"rot\n", api.MaxFuncs*(1+api.MaxCode), api.ErrCode)
}

// slowParse is P7.2 line by line.
func slowParse(s string) (api.Image, int, api.Errno) {
	var m api.Image
	for line, text := range strings.Split(s, "\n") {
		i, ok := instr.Parse(text)
		switch {
		case text == "":
		case text == "func" && len(m) >= api.MaxFuncs:
			return nil, line, api.ErrLong
		case text == "func":
			m = append(m, nil)
		case !ok || len(m) == 0:
			return nil, line, api.ErrCode
		case len(m[len(m)-1]) >= api.MaxCode:
			return nil, line, api.ErrLong
		default:
			m[len(m)-1] = append(m[len(m)-1], i)
		}
	}
	return m, 0, api.OK
}

func TestP7_2_ParseOfMixedLines(t *testing.T) {
	lines := []string{"func", "func", "ret", "ret", "push 5", "push -7", "jump 3", "", "", "", "bad", "push", "func "}
	next := scramble(5)
	for range 20000 {
		var l []string
		for range next(9) {
			l = append(l, lines[next(10+next(4))])
		}
		s := strings.Join(l, "\n")
		m, line, err := slowParse(s)
		if err == api.OK {
			parses(t, s, m)
		} else {
			parseFails(t, s, line, err)
		}
	}
}

func TestP7_2_ParseReturnsNewMemory(t *testing.T) {
	s := "func\npush 5\nret\nfunc\nret\nfunc\nret\npush 5\n"
	m, _, _ := image.Parse(s)
	other, _, _ := image.Parse(s)
	checkApart(t, "Parse", m)
	m[0][0] = wrong
	if want := (api.Image{{push5, ret}, {ret}, {ret, push5}}); !equal(other, want) {
		t.Errorf("two images share memory: %v", other)
	}
}

// checkRoundTrip goes to bytes and to text and back.
func checkRoundTrip(t *testing.T, m api.Image) {
	t.Helper()
	b, err := image.Put(m)
	r := pack.New(b)
	if back, ok := image.Take(r); err != api.OK || !ok || !image.Same(back, m) || r.Left() != 0 {
		t.Errorf("bytes: %v came back as %v, %v", m, back, ok)
	}
	if back, line, err := image.Parse(image.Text(m)); err != api.OK || line != 0 || !image.Same(back, m) {
		t.Errorf("text: %v came back as %v, %d, %d", m, back, line, err)
	}
}

func TestP7_3_ImagesComeBack(t *testing.T) {
	for _, m := range someImages() {
		checkRoundTrip(t, m)
	}
}

// TestP7_3_FromManyGoroutines: what others ask meanwhile changes nothing.
func TestP7_3_FromManyGoroutines(t *testing.T) {
	var wait sync.WaitGroup
	for worker := range 8 {
		wait.Go(func() {
			next := scramble(uint64(worker))
			for range 200 {
				checkRoundTrip(t, random(next))
			}
		})
	}
	wait.Wait()
}
