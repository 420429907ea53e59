package ident_test

import (
	"math"
	"sync"
	"testing"

	"confidant/api"
	"confidant/ident"
)

// labels are some inside and outside of what identities have; so are numbers.
func labels() []int {
	return []int{math.MinInt, math.MinInt32, -api.MaxLabels, -2, -1, 0, 1, 2, 7, 8, 14, 15, 16, 17, 31, 32, 1 << 15, 1 << 16, math.MaxInt32, 1 << 32, 1<<32 + 1, 1 << 48, math.MaxInt}
}

func numbers() []int {
	return []int{math.MinInt, math.MinInt32, -api.Base - 1, -api.Base, -2, -1, 0, 1, 2, 255, 256, 4095, 4096, 1<<15 - 1, 1 << 15, api.Base - 2, api.Base - 1, api.Base, api.Base + 1, 2 * api.Base, math.MaxInt32, 1 << 32, 1<<32 + 1, math.MaxInt}
}

func TestP11_1_Examples(t *testing.T) {
	for _, c := range []struct {
		label, n int
		id       int32
	}{
		{0, 0, 0}, {0, 1, 1}, {0, 65535, 65535}, {1, 0, 65536}, {1, 2, 65538}, {1, 65535, 131071}, {2, 0, 131072}, {3, 4095, 200703}, {15, 0, 983040}, {15, 65535, 1048575},
	} {
		if id, ok := ident.Of(c.label, c.n); id != c.id || !ok {
			t.Errorf("Of(%d, %d): %d, %v; want %d", c.label, c.n, id, ok, c.id)
		}
		if label, n := ident.Label(c.id), ident.Number(c.id); label != c.label || n != c.n {
			t.Errorf("Label and Number of %d: %d, %d; want %d, %d", c.id, label, n, c.label, c.n)
		}
	}
}

func TestP11_1_OfOutside(t *testing.T) {
	for _, label := range labels() {
		for _, n := range numbers() {
			want, inside := int32(0), label >= 0 && label <= 15 && n >= 0 && n <= 65535
			if inside {
				want = int32(label)<<16 | int32(n)
			}
			if id, ok := ident.Of(label, n); id != want || ok != inside {
				t.Errorf("Of(%d, %d): %d, %v; want %d, %v", label, n, id, ok, want, inside)
			}
		}
	}
}

func TestP11_1_NegativeIdentities(t *testing.T) {
	for _, id := range []int32{-1, -2, -65535, -65536, -65537, -1 << 20, -1 << 30, math.MinInt32, math.MinInt32 + 1} {
		if label, n := ident.Label(id), ident.Number(id); label != -1 || n != -1 {
			t.Errorf("Label and Number of %d: %d, %d", id, label, n)
		}
		for _, count := range labels() {
			if ident.Valid(id, count) {
				t.Errorf("Valid(%d, %d)", id, count)
			}
		}
	}
}

// TestP11_1_GreatIdentities: a number that Of never returns has two parts as well.
func TestP11_1_GreatIdentities(t *testing.T) {
	for _, c := range []struct {
		id       int32
		label, n int
	}{
		{1 << 20, 16, 0}, {1<<20 + 5, 16, 5}, {17<<16 - 1, 16, 65535}, {17 << 16, 17, 0}, {1 << 24, 256, 0}, {1 << 30, 1 << 14, 0}, {math.MaxInt32 - 65535, 32767, 0}, {math.MaxInt32, 32767, 65535},
	} {
		if label, n := ident.Label(c.id), ident.Number(c.id); label != c.label || n != c.n {
			t.Errorf("Label and Number of %d: %d, %d; want %d, %d", c.id, label, n, c.label, c.n)
		}
		for _, count := range labels() {
			if ident.Valid(c.id, count) {
				t.Errorf("Valid(%d, %d)", c.id, count)
			}
		}
	}
}

func TestP11_1_Valid(t *testing.T) {
	for label := range 40 {
		for _, n := range []int32{0, 1, 4096, 65534, 65535} {
			id := int32(label)<<16 + n
			for count := -3; count <= 40; count++ {
				want := label < count && label < 16
				if got := ident.Valid(id, count); got != want {
					t.Errorf("Valid(%d, %d): %v; its label is %d", id, count, got, label)
				}
			}
			for _, count := range labels() {
				want := label < count && label < 16
				if got := ident.Valid(id, count); got != want {
					t.Errorf("Valid(%d, %d): %v; its label is %d", id, count, got, label)
				}
			}
		}
	}
}

// TestP11_2_AllIdentities: each of them tells its label and its number, and no two are the same.
func TestP11_2_AllIdentities(t *testing.T) {
	next := int32(0)
	for label := range api.MaxLabels {
		for n := range api.Base {
			id, ok := ident.Of(label, n)
			if id != next || !ok || ident.Label(id) != label || ident.Number(id) != n {
				t.Fatalf("Of(%d, %d): %d, %v, with Label %d and Number %d", label, n, id, ok, ident.Label(id), ident.Number(id))
			}
			if !ident.Valid(id, label+1) || !ident.Valid(id, api.MaxLabels) || ident.Valid(id, label) {
				t.Fatalf("Valid of %d, which was made at %d", id, label)
			}
			next++
		}
	}
}

// TestP11_2_NothingOfOtherLabels: what was made at other labels before changes no identity.
func TestP11_2_NothingOfOtherLabels(t *testing.T) {
	want, _ := ident.Of(3, 7)
	for label := range api.MaxLabels {
		for n := range 100 {
			ident.Of(label, n)
			if id, ok := ident.Of(3, 7); id != want || !ok {
				t.Fatalf("Of(3, 7) behind Of(%d, %d): %d, %v; before: %d", label, n, id, ok, want)
			}
		}
	}
}

// TestP11_2_FromManyGoroutines: what others ask meanwhile changes nothing.
func TestP11_2_FromManyGoroutines(t *testing.T) {
	var wait sync.WaitGroup
	for label := range 8 {
		wait.Go(func() {
			for n := range 20000 {
				id, ok := ident.Of(label, n)
				if !ok || ident.Label(id) != label || ident.Number(id) != n || !ident.Valid(id, 8) {
					t.Errorf("Of(%d, %d): %d, %v", label, n, id, ok)
					return
				}
			}
		})
	}
	wait.Wait()
}
