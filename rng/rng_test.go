package rng_test

import (
	"math"
	"math/big"
	"sync"
	"testing"

	"confidant/rng"
)

// seeds are some states: zero, single bits, all bits, and others.
func seeds() []uint64 {
	out := []uint64{0, 3, 6, 0x0123456789abcdef, 0xfedcba9876543210, 88172645463325252, math.MaxUint64, math.MaxUint64 - 1, math.MaxInt64, math.MaxUint32, math.MaxUint32 << 32, 0xaaaaaaaaaaaaaaaa, 0x5555555555555555}
	for bit := range 64 {
		out = append(out, 1<<bit)
	}
	return out
}

// slowStep goes by P16.1 without shifts of its own: a shift is a product or a quotient with a power of two.
func slowStep(s uint64) uint64 {
	whole := new(big.Int).Lsh(big.NewInt(1), 64)
	x := new(big.Int).SetUint64(s)
	left := func(n int64) {
		y := new(big.Int).Mul(x, new(big.Int).Exp(big.NewInt(2), big.NewInt(n), nil))
		x.Xor(x, y.Mod(y, whole))
	}
	left(13)
	x.Xor(x, new(big.Int).Div(x, big.NewInt(128)))
	left(17)
	return x.Uint64()
}

func TestP16_1_Example(t *testing.T) {
	if got := rng.Step(1); got != 1082269761 {
		t.Errorf("Step(1): %d", got)
	}
}

func TestP16_1_Step(t *testing.T) {
	for _, c := range []struct{ s, want uint64 }{
		{0, 0}, {2, 2164539522}, {3, 3246809283}, {6, 6493618566}, {128, 138530660481}, {1 << 63, 9295429630892703744}, {1 << 50, 10449485831499415552}, {1 << 51, 2308112401213423616},
		{math.MaxUint64, 1065361344}, {math.MaxUint64 - 1, 2130853761}, {0x0123456789abcdef, 4550888344034083252}, {88172645463325252, 8748534153485358512},
	} {
		if got := rng.Step(c.s); got != c.want {
			t.Errorf("Step(%d): %d, want %d", c.s, got, c.want)
		}
	}
	for _, s := range seeds() {
		for range 100 {
			want := slowStep(s)
			if got := rng.Step(s); got != want {
				t.Fatalf("Step(%d): %d, want %d", s, got, want)
			}
			s = want ^ 1<<(s%64)
		}
	}
}

func TestP16_1_Next(t *testing.T) {
	r := rng.New(1)
	for n, want := range []uint64{1082269761, 1152992998833853505, 11177516664432764457, 17678023832001937445, 9659130143999365733, 17775799001133815809} {
		if got := r.Next(); got != want {
			t.Errorf("Next %d of seed 1: %d, want %d", n, got, want)
		}
	}
	for _, seed := range seeds()[1:] {
		r, s := rng.New(seed), seed
		for n := range 100 {
			s = slowStep(s)
			if got := r.Next(); got != s {
				t.Fatalf("Next %d of seed %d: %d, want %d", n, seed, got, s)
			}
		}
	}
}

// TestP16_1_SeedZero: it counts as 1.
func TestP16_1_SeedZero(t *testing.T) {
	zero, one := rng.New(0), rng.New(1)
	for n := range 100 {
		if a, b := zero.Next(), one.Next(); a != b || a == 0 {
			t.Fatalf("Next %d: %d of seed 0, %d of seed 1", n, a, b)
		}
	}
}

// TestP16_1_Below: the numbers have no sign, also those of 2^63 and more.
func TestP16_1_Below(t *testing.T) {
	for _, seed := range seeds()[1:] {
		r, s := rng.New(seed), seed
		for _, n := range []int{1, 2, 3, 5, 7, 8, 10, 16, 100, 255, 256, 1000, 65536, math.MaxInt32, 1 << 32, 1<<32 + 1, 1 << 62, math.MaxInt - 1, math.MaxInt, 2, 3, 1, 8} {
			s = slowStep(s)
			want := new(big.Int).Mod(new(big.Int).SetUint64(s), big.NewInt(int64(n))).Int64()
			if got := r.Below(n); got != int(want) {
				t.Fatalf("Below(%d) in state %d: %d, want %d", n, s, got, want)
			}
		}
	}
}

// TestP16_1_BelowNothing: an n less than 1 returns 0 and leaves the state; an n of 1 returns 0 and does not.
func TestP16_1_BelowNothing(t *testing.T) {
	r, s := rng.New(9), uint64(9)
	for _, n := range []int{0, -1, -2, -8, math.MinInt32, math.MinInt32 - 1, -1 << 32, math.MinInt, math.MinInt + 1} {
		for range 3 {
			if got := r.Below(n); got != 0 {
				t.Errorf("Below(%d): %d", n, got)
			}
		}
		s = slowStep(s)
		if got := r.Next(); got != s {
			t.Fatalf("Next behind Below(%d): %d, want %d", n, got, s)
		}
		s = slowStep(slowStep(s))
		if zero, got := r.Below(1), r.Next(); zero != 0 || got != s {
			t.Fatalf("Below(1): %d, and Next behind it %d; want 0, %d", zero, got, s)
		}
	}
}

// TestP16_2_SameSeed: whatever is asked of others meanwhile, and whoever asks.
func TestP16_2_SameSeed(t *testing.T) {
	for _, seed := range seeds() {
		a, b, other := rng.New(seed), rng.New(seed), rng.New(seed+7)
		for n := range 50 {
			x := a.Below(n + 1)
			other.Next()
			if y := b.Below(n + 1); x != y {
				t.Fatalf("number %d of seed %d: %d, and %d", n, seed, x, y)
			}
		}
	}
	var all sync.WaitGroup
	for range 8 {
		all.Go(func() {
			r, s := rng.New(5), uint64(5)
			for range 1000 {
				s = rng.Step(s)
				if got := r.Next(); got != s {
					t.Errorf("Next: %d, want %d", got, s)
				}
			}
		})
	}
	all.Wait()
}

// TestP16_2_OtherSeeds: no number of the first ones is that of another seed, as Step can be undone.
func TestP16_2_OtherSeeds(t *testing.T) {
	from := map[uint64]uint64{}
	for _, seed := range seeds()[1:] {
		got := rng.New(seed).Next()
		if other, ok := from[got]; ok {
			t.Errorf("seeds %d and %d both yield %d", seed, other, got)
		}
		from[got] = seed
	}
}
