package word_test

import (
	"math"
	"math/big"
	"sync"
	"testing"

	"confidant/word"
)

// scramble yields numbers: the same ones in every run.
func scramble(seed uint64) func() int32 {
	return func() int32 {
		seed = seed*6364136223846793005 + 1442695040888963407
		return int32(seed >> 32)
	}
}

// edges are the small numbers, and those around each power of two, with both signs.
func edges() []int32 {
	var l []int32
	for n := int32(-20); n <= 20; n++ {
		l = append(l, n)
	}
	for bit := 4; bit < 32; bit++ {
		for near := int64(-2); near <= 2; near++ {
			// Behind 2^31 this goes round to the least number.
			l = append(l, int32(1<<bit+near), int32(-1<<bit+near))
		}
	}
	return append(l, 46340, 46341, -46340, -46341, math.MaxInt32/3, math.MinInt32/3, 1000000007)
}

// pairs calls f for all pairs of edges, and for many other ones.
func pairs(f func(a, b int32)) {
	l := edges()
	for _, a := range l {
		for _, b := range l {
			f(a, b)
		}
	}
	next := scramble(9)
	for range 50000 {
		a, b, small := next(), next(), next()%300
		f(a, b)
		f(a, small)
		f(small, b)
		f(a, a)
	}
}

// cut is the number of 32 bits, in two's complement, that equals x modulo 2^32.
func cut(x *big.Int) int32 {
	modulus := new(big.Int).Lsh(big.NewInt(1), 32)
	n := new(big.Int).Mod(x, modulus).Int64()
	if n > math.MaxInt32 {
		n -= 1 << 32
	}
	return int32(n)
}

func big32(a int32) *big.Int {
	return big.NewInt(int64(a))
}

func TestP9_1_Examples(t *testing.T) {
	const most, least = math.MaxInt32, math.MinInt32
	for _, c := range []struct {
		name      string
		f         func(a, b int32) int32
		a, b, got int32
	}{
		{"Add", word.Add, 2, 3, 5}, {"Add", word.Add, -2, 3, 1}, {"Add", word.Add, 2, -3, -1}, {"Add", word.Add, 0, 0, 0},
		{"Add", word.Add, most, 1, least}, {"Add", word.Add, least, -1, most}, {"Add", word.Add, most, most, -2},
		{"Add", word.Add, least, least, 0}, {"Add", word.Add, most, least, -1},
		{"Sub", word.Sub, 2, 3, -1}, {"Sub", word.Sub, 3, 2, 1}, {"Sub", word.Sub, 0, -5, 5}, {"Sub", word.Sub, 7, 7, 0},
		{"Sub", word.Sub, least, 1, most}, {"Sub", word.Sub, most, -1, least}, {"Sub", word.Sub, 0, least, least},
		{"Sub", word.Sub, least, most, 1}, {"Sub", word.Sub, most, least, -1},
		{"Mul", word.Mul, 6, 7, 42}, {"Mul", word.Mul, -6, 7, -42}, {"Mul", word.Mul, -6, -7, 42}, {"Mul", word.Mul, 0, most, 0},
		{"Mul", word.Mul, 1 << 16, 1 << 16, 0}, {"Mul", word.Mul, 1 << 16, 1 << 15, least}, {"Mul", word.Mul, least, -1, least},
		{"Mul", word.Mul, least, least, 0}, {"Mul", word.Mul, most, most, 1}, {"Mul", word.Mul, most, 2, -2}, {"Mul", word.Mul, least, most, least},
		{"Mul", word.Mul, 65537, 65537, 131073},
		{"Less", word.Less, 1, 2, 1}, {"Less", word.Less, 2, 1, 0}, {"Less", word.Less, 2, 2, 0}, {"Less", word.Less, -1, 0, 1},
		{"Less", word.Less, 0, -1, 0}, {"Less", word.Less, least, most, 1}, {"Less", word.Less, most, least, 0}, {"Less", word.Less, least, least, 0},
		{"Eq", word.Eq, 1, 2, 0}, {"Eq", word.Eq, 2, 1, 0}, {"Eq", word.Eq, 2, 2, 1}, {"Eq", word.Eq, 5, -5, 0}, {"Eq", word.Eq, 0, 0, 1},
		{"Eq", word.Eq, least, least, 1}, {"Eq", word.Eq, least, most, 0}, {"Eq", word.Eq, 0, least, 0},
	} {
		if got := c.f(c.a, c.b); got != c.got {
			t.Errorf("%s(%d, %d): %d, want %d", c.name, c.a, c.b, got, c.got)
		}
	}
}

func TestP9_1_DivExamples(t *testing.T) {
	const most, least = math.MaxInt32, math.MinInt32
	for _, c := range []struct{ a, b, want int32 }{
		{6, 3, 2}, {7, 2, 3}, {-7, 2, -3}, {7, -2, -3}, {-7, -2, 3}, {1, 2, 0}, {-1, 2, 0}, {1, -2, 0}, {0, 5, 0}, {0, -5, 0}, {5, 1, 5}, {5, -1, -5},
		{least, -1, least}, {least, 1, least}, {most, -1, -most}, {most, 1, most}, {least, least, 1}, {most, least, 0}, {least, most, -1}, {least, 2, -1 << 30}, {least, -2, 1 << 30},
	} {
		if got, ok := word.Div(c.a, c.b); got != c.want || !ok {
			t.Errorf("Div(%d, %d): %d, %v; want %d", c.a, c.b, got, ok, c.want)
		}
	}
}

func TestP9_1_DivByZero(t *testing.T) {
	for _, a := range edges() {
		if got, ok := word.Div(a, 0); got != 0 || ok {
			t.Errorf("Div(%d, 0): %d, %v", a, got, ok)
		}
	}
}

// TestP9_1_AddSubMul against numbers of any length.
func TestP9_1_AddSubMul(t *testing.T) {
	pairs(func(a, b int32) {
		if got, want := word.Add(a, b), cut(new(big.Int).Add(big32(a), big32(b))); got != want {
			t.Fatalf("Add(%d, %d): %d, want %d", a, b, got, want)
		}
		if got, want := word.Sub(a, b), cut(new(big.Int).Sub(big32(a), big32(b))); got != want {
			t.Fatalf("Sub(%d, %d): %d, want %d", a, b, got, want)
		}
		if got, want := word.Mul(a, b), cut(new(big.Int).Mul(big32(a), big32(b))); got != want {
			t.Fatalf("Mul(%d, %d): %d, want %d", a, b, got, want)
		}
	})
}

// TestP9_1_Div: big.Int.Quo rounds toward zero.
func TestP9_1_Div(t *testing.T) {
	pairs(func(a, b int32) {
		if b == 0 {
			return
		}
		want := cut(new(big.Int).Quo(big32(a), big32(b)))
		if got, ok := word.Div(a, b); got != want || !ok {
			t.Fatalf("Div(%d, %d): %d, %v; want %d", a, b, got, ok, want)
		}
	})
}

func TestP9_1_LessEq(t *testing.T) {
	pairs(func(a, b int32) {
		var less, equal int32
		switch big32(a).Cmp(big32(b)) {
		case -1:
			less = 1
		case 0:
			equal = 1
		}
		if got := word.Less(a, b); got != less {
			t.Fatalf("Less(%d, %d): %d", a, b, got)
		}
		if got := word.Eq(a, b); got != equal {
			t.Fatalf("Eq(%d, %d): %d", a, b, got)
		}
	})
}

// TestP9_2_NumbersAreFinite: behind the greatest number comes the least one, so that everything has a result again.
func TestP9_2_NumbersAreFinite(t *testing.T) {
	pairs(func(a, b int32) {
		if word.Sub(word.Add(a, b), b) != a || word.Add(word.Sub(a, b), b) != a {
			t.Fatalf("adding and subtracting %d does not lead back to %d", b, a)
		}
		if word.Mul(a, word.Add(b, 1)) != word.Add(word.Mul(a, b), a) {
			t.Fatalf("%d times one more than %d is not %d more", a, b, a)
		}
		q, ok := word.Div(a, b)
		rest := word.Sub(a, word.Mul(q, b))
		if ok != (b != 0) || ok && !(rest == 0 || (rest < 0) == (a < 0) && abs(rest) < abs(b)) {
			t.Fatalf("Div(%d, %d): %d, %v; it leaves %d", a, b, q, ok, rest)
		}
	})
}

func abs(a int32) int64 {
	return max(int64(a), -int64(a))
}

// TestP9_2_FromManyGoroutines: what others ask meanwhile changes nothing.
func TestP9_2_FromManyGoroutines(t *testing.T) {
	var wait sync.WaitGroup
	for worker := range 8 {
		wait.Go(func() {
			next := scramble(uint64(worker))
			for range 20000 {
				a, b := next(), next()
				if word.Add(a, b) != a+b || word.Sub(a, b) != a-b || word.Mul(a, b) != a*b {
					t.Errorf("a wrong result for %d and %d", a, b)
					return
				}
			}
		})
	}
	wait.Wait()
}
