package pack

import (
	"bytes"
	"math"
	"math/big"
	"strings"
	"testing"

	"confidant/api"
)

// edges are the numbers around which the length of an encoding changes.
func edges() []uint64 {
	l := []uint64{0, 1, 300, math.MaxUint64 - 1, math.MaxUint64}
	for bit := 1; bit < 64; bit++ {
		p := uint64(1) << bit
		l = append(l, p-1, p, p+1)
	}
	return l
}

// scramble yields numbers of all lengths: the same ones in every run.
func scramble(seed uint64) func() uint64 {
	return func() uint64 {
		seed = seed*6364136223846793005 + 1442695040888963407
		return (seed ^ seed>>29) >> (seed >> 58)
	}
}

func check(t *testing.T, what string, r *Reader, left int, err api.Errno) {
	t.Helper()
	if r.Left() != left || r.Err() != err {
		t.Errorf("%s: Left %d, Err %d; want %d, %d", what, r.Left(), r.Err(), left, err)
	}
}

// checkFailed asks a Reader whose last call failed whether it stays so.
func checkFailed(t *testing.T, what string, r *Reader, err api.Errno) {
	t.Helper()
	for range 3 {
		check(t, what, r, 0, err)
		if n, b := r.Num(math.MaxUint64), r.Lump(math.MaxInt); n != 0 || len(b) != 0 {
			t.Errorf("%s: later calls return %d and %x", what, n, b)
		}
	}
}

func TestP1_1_PutOfOne(t *testing.T) {
	for _, c := range []struct {
		n    uint64
		want string
	}{
		{0, "\x00"}, {1, "\x01"}, {127, "\x7f"},
		{128, "\x81\x00"}, {129, "\x81\x01"}, {255, "\x81\x7f"}, {300, "\x82\x2c"}, {16383, "\xff\x7f"},
		{16384, "\x81\x80\x00"}, {1<<21 - 1, "\xff\xff\x7f"}, {1 << 21, "\x81\x80\x80\x00"},
		{1<<56 - 1, "\xff\xff\xff\xff\xff\xff\xff\x7f"}, {1 << 56, "\x81\x80\x80\x80\x80\x80\x80\x80\x00"},
		{1<<63 - 1, "\xff\xff\xff\xff\xff\xff\xff\xff\x7f"},
		{1 << 63, "\x81\x80\x80\x80\x80\x80\x80\x80\x80\x00"},
		{math.MaxUint64, "\x81\xff\xff\xff\xff\xff\xff\xff\xff\x7f"},
	} {
		if got := string(Put(c.n)); got != c.want {
			t.Errorf("Put(%d): %x, want %x", c.n, got, c.want)
		}
	}
}

func TestP1_1_PutIsShortestAndMarksItsEnd(t *testing.T) {
	for _, n := range edges() {
		b := Put(n)
		want := 1
		for m := n >> 7; m > 0; m >>= 7 {
			want++
		}
		if len(b) != want || len(b) > 10 {
			t.Errorf("Put(%d): %d bytes, want %d", n, len(b), want)
		}
		value := new(big.Int)
		for i, c := range b {
			if more := c >= 0x80; more != (i < len(b)-1) {
				t.Errorf("Put(%d): %x: the highest bit of byte %d", n, b, i)
			}
			value.Lsh(value, 7).Add(value, big.NewInt(int64(c&0x7f)))
		}
		if value.Cmp(new(big.Int).SetUint64(n)) != 0 {
			t.Errorf("Put(%d): %x denotes %s", n, b, value)
		}
	}
}

func TestP1_1_PutOfSome(t *testing.T) {
	if got := Put(); len(got) != 0 {
		t.Errorf("Put(): %x", got)
	}
	if got := Put([]uint64{}...); len(got) != 0 {
		t.Errorf("Put of an empty slice: %x", got)
	}
	if got := string(Put(1, 300, 0, 2)); got != "\x01\x82\x2c\x00\x02" {
		t.Errorf("Put(1, 300, 0, 2): %x", got)
	}
	var want []byte
	for _, n := range edges() {
		want = append(want, Put(n)...)
	}
	if got := Put(edges()...); !bytes.Equal(got, want) {
		t.Error("Put of some is not the Puts of each, in order")
	}
}

func TestP1_1_Lump(t *testing.T) {
	for _, c := range []struct {
		b    []byte
		head string
	}{
		{nil, "\x00"}, {[]byte{}, "\x00"}, {[]byte("ab"), "\x02"}, {[]byte{0x80}, "\x01"},
		{make([]byte, 127), "\x7f"}, {make([]byte, 128), "\x81\x00"}, {make([]byte, 200), "\x81\x48"},
		{bytes.Repeat([]byte{0xff}, 16384), "\x81\x80\x00"},
	} {
		if got := string(Lump(c.b)); got != c.head+string(c.b) {
			t.Errorf("Lump of %d bytes: %d bytes, not %x and these", len(c.b), len(got), c.head)
		}
	}
}

func TestP1_1_ArgumentsAreLeftAlone(t *testing.T) {
	l := []uint64{1, 300, 7, 8}
	Put(l[:2]...)
	if l[0] != 1 || l[1] != 300 || l[2] != 7 || l[3] != 8 {
		t.Errorf("Put changed its numbers: %d", l)
	}
	b := []byte("abcdef")
	x := Lump(b[:2])
	y := Lump(b[:2])
	for i := range x {
		x[i] = 'z'
	}
	_ = append(x, "zzzz"...)
	if string(b) != "abcdef" || string(y) != "\x02ab" {
		t.Errorf("Lump shares memory: %s, %q", b, y)
	}
}

func TestP1_2_NumReads(t *testing.T) {
	for _, n := range edges() {
		r := New(append(Put(n), 'x', 'y'))
		check(t, "fresh", r, len(Put(n))+2, api.OK)
		if got := r.Num(math.MaxUint64); got != n {
			t.Errorf("Num of %d: %d", n, got)
		}
		check(t, "after Num", r, 2, api.OK)
	}
}

func TestP1_2_NumAtMost(t *testing.T) {
	for _, n := range edges() {
		r := New(Put(n, n))
		if got := r.Num(n); got != n {
			t.Errorf("Num(%d) of the same: %d", n, got)
		}
		check(t, "exactly most", r, len(Put(n)), api.OK)
		if n == 0 {
			continue
		}
		if got := r.Num(n - 1); got != 0 {
			t.Errorf("Num(%d) of one more: %d", n-1, got)
		}
		checkFailed(t, "above most", r, api.ErrLong)
	}
}

func TestP1_2_NumFails(t *testing.T) {
	tail := strings.Repeat("\x80", 8)
	for _, c := range []struct {
		b    string
		most uint64
		want api.Errno
	}{
		{"", 9, api.ErrShort},
		{"\x81", 9, api.ErrShort},
		{"\x81", 0, api.ErrShort},
		{"\xff\xff", 0, api.ErrShort},
		{"\x80", 9, api.ErrBytes},
		{"\x80\x01", 9, api.ErrBytes},
		{"\x80\x80", 9, api.ErrBytes},
		{"\x80\x00", 0, api.ErrBytes},
		{"\x0a", 9, api.ErrLong},
		{"\x01", 0, api.ErrLong},
		{"\x81\x00", 127, api.ErrLong},
		// 2^57: any further byte makes it too great
		{"\x82" + tail, math.MaxUint64, api.ErrShort},
		{"\x82" + tail + "\x00", math.MaxUint64, api.ErrBytes},
		{"\x82" + tail + "\x80", math.MaxUint64, api.ErrBytes},
		{"\x82" + tail + "\x00", 0, api.ErrBytes},
		// 2^63 is a number, but no byte may follow
		{"\x81" + tail + "\x80", math.MaxUint64, api.ErrShort},
		{"\x81" + tail + "\x80\x00", math.MaxUint64, api.ErrBytes},
		{"\x81" + tail + "\x80\x80", math.MaxUint64, api.ErrBytes},
		{"\x81" + tail + "\x00", 1<<63 - 1, api.ErrLong},
		{strings.Repeat("\xff", 9), 5, api.ErrShort},
		{strings.Repeat("\xff", 10), 5, api.ErrBytes},
		{strings.Repeat("\xff", 100), math.MaxUint64, api.ErrBytes},
	} {
		r := New([]byte(c.b))
		if got := r.Num(c.most); got != 0 {
			t.Errorf("Num(%d) of %x: %d", c.most, c.b, got)
		}
		checkFailed(t, "Num of invalid bytes", r, c.want)
	}
}

func TestP1_2_NumCutOff(t *testing.T) {
	for _, n := range edges() {
		b := Put(n)
		for size := range b {
			r := New(b[:size])
			if got := r.Num(0); got != 0 {
				t.Errorf("Num of %x: %d", b[:size], got)
			}
			checkFailed(t, "cut off", r, api.ErrShort)
		}
	}
}

// slowNum is P1.2 by numbers of any size: the value, the size of the encoding, the error.
func slowNum(b []byte, most uint64) (uint64, int, api.Errno) {
	if len(b) > 0 && b[0] == 0x80 {
		return 0, 0, api.ErrBytes
	}
	value := new(big.Int)
	for i, c := range b {
		value.Mul(value, big.NewInt(128)).Add(value, big.NewInt(int64(c%128)))
		if !value.IsUint64() {
			return 0, 0, api.ErrBytes
		}
		if c < 128 && value.Uint64() > most {
			return 0, 0, api.ErrLong
		}
		if c < 128 {
			return value.Uint64(), i + 1, api.OK
		}
	}
	return 0, 0, api.ErrShort
}

func checkAgainstSlow(t *testing.T, b []byte, most uint64) {
	t.Helper()
	want, size, err := slowNum(b, most)
	r := New(b)
	if got := r.Num(most); got != want {
		t.Errorf("Num(%d) of %x: %d, want %d", most, b, got, want)
	}
	left := 0
	if err == api.OK {
		left = len(b) - size
		if !bytes.Equal(Put(want), b[:size]) {
			t.Errorf("Num accepts %x, which is not Put(%d)", b[:size], want)
		}
	}
	check(t, "Num", r, left, err)
}

func TestP1_2_NumOfAllShortBytes(t *testing.T) {
	checkAgainstSlow(t, nil, 200)
	for x := range 256 {
		checkAgainstSlow(t, []byte{byte(x)}, 100)
		for y := range 256 {
			checkAgainstSlow(t, []byte{byte(x), byte(y)}, 200)
		}
	}
}

func TestP1_2_NumOfLongBytes(t *testing.T) {
	next := scramble(1)
	bytesOf := []byte{0x00, 0x01, 0x7f, 0x80, 0x81, 0x82, 0xff}
	for range 20000 {
		b := make([]byte, 8+next()%5)
		for i := range b {
			b[i] = bytesOf[next()%7] | 0x80
		}
		b[next()%uint64(len(b))] &= 0x7f
		checkAgainstSlow(t, b, math.MaxUint64)
		checkAgainstSlow(t, b, next())
	}
}

func TestP1_2_LumpReads(t *testing.T) {
	r := New([]byte("\x03abc\x02de\x00\x05x"))
	if x, y, z := string(r.Lump(3)), string(r.Lump(math.MaxInt)), r.Lump(0); x != "abc" || y != "de" || len(z) != 0 {
		t.Errorf("Lump: %q, %q, %q", x, y, z)
	}
	check(t, "after three", r, 2, api.OK)
	if n := r.Num(5); n != 5 {
		t.Errorf("Num after Lump: %d", n)
	}
	check(t, "after Num", r, 1, api.OK)
	for _, most := range []int{-1, math.MinInt} {
		r := New([]byte("\x00x"))
		if b := r.Lump(most); len(b) != 0 {
			t.Errorf("Lump(%d): %x", most, b)
		}
		check(t, "an empty lump, negative most", r, 1, api.OK)
	}
	r = New(Lump(make([]byte, 16384)))
	if b := r.Lump(16384); len(b) != 16384 {
		t.Errorf("Lump of 16384 bytes: %d", len(b))
	}
	check(t, "the whole of it", r, 0, api.OK)
}

func TestP1_2_LumpFails(t *testing.T) {
	for _, c := range []struct {
		b    string
		most int
		want api.Errno
	}{
		{"", 9, api.ErrShort},
		{"\x01", 9, api.ErrShort},
		{"\x03ab", 9, api.ErrShort},
		{"\x81", 9, api.ErrShort},
		{"\x03abc", 2, api.ErrLong},
		{"\x03ab", 2, api.ErrLong}, // the number is read first
		{"\x01a", 0, api.ErrLong},
		{"\x01a", -5, api.ErrLong},
		{"\x01a", math.MinInt, api.ErrLong},
		{"\x80a", 9, api.ErrBytes},
		{"\x81\xff\xff\xff\xff\xff\xff\xff\xff\x7fa", math.MaxInt, api.ErrLong},
		{"\xff\xff\xff\xff\xff\xff\xff\xff\x7fa", math.MaxInt, api.ErrShort},
		{"\x82\x80\x80\x80\x80\x80\x80\x80\x80\x00a", math.MaxInt, api.ErrBytes},
	} {
		r := New([]byte(c.b))
		if got := r.Lump(c.most); len(got) != 0 {
			t.Errorf("Lump(%d) of %q: %x", c.most, c.b, got)
		}
		checkFailed(t, "Lump of invalid bytes", r, c.want)
	}
}

func TestP1_2_TheFirstErrorStays(t *testing.T) {
	r := New([]byte("\x05\x09\x01a\x01"))
	if n := r.Num(5); n != 5 {
		t.Errorf("Num: %d", n)
	}
	check(t, "no error yet", r, 4, api.OK)
	if n := r.Num(8); n != 0 {
		t.Errorf("Num above most: %d", n)
	}
	checkFailed(t, "Num after ErrLong", r, api.ErrLong)
	r = New([]byte("\x01a\x80\x01"))
	if b := r.Lump(1); string(b) != "a" {
		t.Errorf("Lump: %q", b)
	}
	if b := r.Lump(1); len(b) != 0 {
		t.Errorf("Lump of 0x80: %x", b)
	}
	checkFailed(t, "Lump after ErrBytes", r, api.ErrBytes)
}

func TestP1_2_NewKeepsACopy(t *testing.T) {
	whole := []byte("\x01\x02ab\x07\x08")
	r := New(whole[:5])
	for i := range whole {
		whole[i] = 0x80
	}
	if n, b, m := r.Num(9), r.Lump(9), r.Num(9); n != 1 || string(b) != "ab" || m != 7 {
		t.Errorf("after its bytes were changed: %d, %q, %d", n, b, m)
	}
	check(t, "the rest is not its own", r, 0, api.OK)
}

func TestP1_2_LumpReturnsNewMemory(t *testing.T) {
	given := []byte("\x02ab\x02cd\x03")
	r := New(given)
	x := r.Lump(2)
	x[0] = 'z'
	_ = append(x, "zzzz"...)
	y := r.Lump(2)
	y[0] = 'z'
	if _ = append(y, "zzzz"...); string(x) != "zb" || string(y) != "zd" || r.Num(3) != 3 {
		t.Errorf("lumps share memory: %q, %q", x, y)
	}
	if string(given) != "\x02ab\x02cd\x03" {
		t.Errorf("the argument of New was changed: %q", given)
	}
}

func TestP1_2_ReadersAreIndependent(t *testing.T) {
	b := Put(1, 2, 3)
	r, s := New(b), New(b)
	r.Num(0)
	checkFailed(t, "the one", r, api.ErrLong)
	if n := s.Num(1); n != 1 {
		t.Errorf("the other: %d", n)
	}
	check(t, "the other", s, 2, api.OK)
}

func TestP1_3_NumbersComeBack(t *testing.T) {
	l := edges()
	r := New(Put(l...))
	for _, n := range l {
		if got := r.Num(math.MaxUint64); got != n {
			t.Errorf("%d came back as %d", n, got)
		}
	}
	check(t, "at the end", r, 0, api.OK)
	r.Num(math.MaxUint64)
	checkFailed(t, "past the end", r, api.ErrShort)
}

func TestP1_3_MixedValuesComeBack(t *testing.T) {
	next := scramble(2)
	for range 200 {
		var b []byte
		var reads []func(*Reader) bool
		for range next() % 20 {
			if n := next(); n%2 == 0 {
				b = append(b, Put(n)...)
				reads = append(reads, func(r *Reader) bool { return r.Num(n) == n })
			} else {
				lump := bytes.Repeat([]byte{byte(n)}, int(n%300))
				b = append(b, Lump(lump)...)
				reads = append(reads, func(r *Reader) bool { return bytes.Equal(r.Lump(len(lump)), lump) })
			}
		}
		r := New(b)
		for i, read := range reads {
			if !read(r) || r.Err() != api.OK {
				t.Fatalf("value %d of %x did not come back", i, b)
			}
		}
		check(t, "at the end", r, 0, api.OK)
	}
}
