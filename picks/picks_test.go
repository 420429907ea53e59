package picks_test

import (
	"bytes"
	"math"
	"sync"
	"testing"

	"confidant/picks"
	"confidant/rng"
)

// numbers are some n for Next.
func numbers() []int {
	return []int{math.MinInt, math.MinInt32, -1 << 32, -256, -8, -2, -1, 0, 1, 2, 3, 5, 7, 8, 9, 16, 100, 127, 128, 129, 254, 255, 256, 257, 258, 1000, 65536, math.MaxInt32, 1 << 32, math.MaxInt}
}

// allBytes are those from 0 to 255.
func allBytes() []byte {
	var out []byte
	for b := range 256 {
		out = append(out, byte(b))
	}
	return out
}

// next asks for one choice, and then for how many given ones are left.
func next(t *testing.T, p *picks.Picks, n, want, left int) {
	t.Helper()
	if got := p.Next(n); got != want || p.Left() != left {
		t.Errorf("Next(%d): %d, and Left %d; want %d, %d", n, got, p.Left(), want, left)
	}
}

func TestP17_1_Example(t *testing.T) {
	next(t, picks.New([]byte{5}, 0), 2, 1, 0)
}

// TestP17_1_Given: every byte, modulo every n; an n less than 1 counts as 1.
func TestP17_1_Given(t *testing.T) {
	l := allBytes()
	for _, n := range numbers() {
		p := picks.New(l, 1)
		if p.Left() != 256 {
			t.Errorf("Left: %d", p.Left())
		}
		for b := range l {
			want := 0
			if n > 1 {
				want = b - b/n*n
			}
			next(t, p, n, want, 255-b)
		}
	}
}

// TestP17_1_AnySize: MaxPicks is no limit here.
func TestP17_1_AnySize(t *testing.T) {
	for _, size := range []int{0, 1, 2, 3, 255, 256, 257, 1023, 1024, 1025, 5000, 70000} {
		l := make([]byte, size)
		for k := range l {
			l[k] = byte(k*7 + k/256)
		}
		p, g := picks.New(l, 3), rng.New(3)
		for k, b := range l {
			next(t, p, 256, int(b), size-k-1)
		}
		for range 5 {
			next(t, p, 256, g.Below(256), 0)
		}
	}
}

// TestP17_1_Generator: it begins where the given choices end, at its first number, whatever was asked before.
func TestP17_1_Generator(t *testing.T) {
	for _, seed := range []uint64{0, 1, 2, 3, 255, 1 << 32, 1 << 63, math.MaxUint64, 88172645463325252} {
		for _, l := range [][]byte{nil, {}, {0}, {7}, {1, 2, 3}, {255, 0, 255}} {
			p, g := picks.New(l, seed), rng.New(seed)
			for k, b := range l {
				next(t, p, 3+k, int(b)%(3+k), len(l)-k-1)
			}
			for k := range 100 {
				n := k%9 + 1
				next(t, p, n, g.Below(n), 0)
			}
			next(t, p, math.MaxInt, g.Below(math.MaxInt), 0)
		}
	}
}

// TestP17_1_NothingToChoose: an n less than 1 counts as 1, so that the generator goes on, as with an n of 1.
func TestP17_1_NothingToChoose(t *testing.T) {
	for _, n := range []int{1, 0, -1, -2, math.MinInt32, -1 << 32, math.MinInt, math.MinInt + 1} {
		p, g := picks.New([]byte{9, 8}, 4), rng.New(4)
		next(t, p, n, 0, 1)
		next(t, p, n, 0, 0)
		for range 10 {
			next(t, p, n, 0, 0)
			g.Next()
			next(t, p, 1000, g.Below(1000), 0)
		}
	}
}

// TestP17_1_ChoicesNotKept: what happens later to the list is of no account, and no call changes it.
func TestP17_1_ChoicesNotKept(t *testing.T) {
	whole := []byte{1, 2, 3, 101, 102}
	p := picks.New(whole[:3], 6)
	next(t, p, 200, 1, 2)
	if !bytes.Equal(whole, []byte{1, 2, 3, 101, 102}) {
		t.Errorf("the list is now %v", whole)
	}
	clear(whole)
	next(t, p, 200, 2, 1)
	next(t, p, 200, 3, 0)
	next(t, p, 200, rng.New(6).Below(200), 0)
	if !bytes.Equal(whole, make([]byte, 5)) {
		t.Errorf("the list is now %v", whole)
	}
}

// TestP17_1_LeftChangesNothing: nor do other choices.
func TestP17_1_LeftChangesNothing(t *testing.T) {
	l := []byte{4, 5, 6}
	a, b := picks.New(l, 2), picks.New(l, 2)
	g := rng.New(2)
	for k := range 20 {
		for range k {
			a.Left()
		}
		want, left := 0, 0
		if k < 3 {
			want, left = int(l[k]), 2-k
		} else {
			want = g.Below(50)
		}
		next(t, a, 50, want, left)
		next(t, b, 50, want, left)
	}
}

// TestP17_2_Prescribed: the choices of a list come, in its order, whatever the seed is and however often n changes.
func TestP17_2_Prescribed(t *testing.T) {
	list := []byte{0, 7, 3, 3, 1, 200, 0, 6, 5, 255}
	for seed := range uint64(50) {
		for workers := 1; workers <= 8; workers++ {
			p := picks.New(list, seed)
			for k, b := range list {
				n := (workers+k)%8 + 1
				next(t, p, n, int(b)%n, len(list)-k-1)
			}
		}
	}
}

func TestP17_1_SideBySide(t *testing.T) {
	var all sync.WaitGroup
	for seed := range uint64(8) {
		all.Go(func() {
			p, g := picks.New([]byte{byte(seed)}, seed), rng.New(seed)
			next(t, p, 9, int(seed), 0)
			for range 500 {
				next(t, p, 9, g.Below(9), 0)
			}
		})
	}
	all.Wait()
}
