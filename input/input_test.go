package input_test

import (
	"math"
	"slices"
	"sync"
	"testing"

	"confidant/input"
)

// counts asks for the number of values of a label.
func counts(t *testing.T, i *input.Inputs, label, want int) {
	t.Helper()
	if got := i.Len(label); got != want {
		t.Errorf("Len(%d): %d, want %d", label, got, want)
	}
}

// lacks asks for a value that must not be there.
func lacks(t *testing.T, i *input.Inputs, label int, n int32) {
	t.Helper()
	if v, ok := i.Get(label, n); v != 0 || ok {
		t.Errorf("Get(%d, %d): %d, %v; want none", label, n, v, ok)
	}
}

// is asks for all values of all labels, and for some beside them.
func is(t *testing.T, i *input.Inputs, want ...[]int32) {
	t.Helper()
	for label, values := range want {
		counts(t, i, label, len(values))
		for n, v := range values {
			if got, ok := i.Get(label, int32(n)); got != v || !ok {
				t.Errorf("Get(%d, %d): %d, %v; want %d", label, n, got, ok, v)
			}
		}
		for _, n := range []int32{-1, -2, int32(len(values)), int32(len(values)) + 1} {
			lacks(t, i, label, n)
		}
	}
	for _, label := range []int{-2, -1, len(want), len(want) + 1} {
		counts(t, i, label, 0)
		for n := int32(-2); n < 4; n++ {
			lacks(t, i, label, n)
		}
	}
}

// scramble yields numbers: the same ones in every run.
func scramble(seed uint64) func(n int) int {
	return func(n int) int {
		seed = seed*6364136223846793005 + 1442695040888963407
		return int(seed>>33) % n
	}
}

func TestP14_1_Example(t *testing.T) {
	i := input.New([]int32{1}, nil, []int32{})
	for _, label := range []int{1, 2, 3} {
		lacks(t, i, label, 0)
	}
}

func TestP14_1_Values(t *testing.T) {
	for _, l := range [][][]int32{
		nil, {}, {nil}, {{}}, {{0}}, {{5}}, {nil, {5}}, {{5}, nil}, {{5}, {}, {6}}, {{1, 2, 3}}, {{1, 2, 3}, {4}, {5, 6}}, {nil, nil, {7, 8, 9}, nil}, {{0, 0, 0}, {0, 0}},
		{{math.MinInt32, -1, 0, 1, math.MaxInt32}, {math.MaxInt32}, {math.MinInt32}},
	} {
		is(t, input.New(l...), l...)
	}
}

// TestP14_1_NoSuchValue: numbers that are cut off, or whose sign is lost, would name a value.
func TestP14_1_NoSuchValue(t *testing.T) {
	i := input.New([]int32{1, 2, 3}, []int32{4})
	for label := range 2 {
		for _, n := range []int32{math.MinInt32, math.MinInt32 + 1, -65536, -256, -3, -2, -1, 3, 4, 255, 256, 257, 65535, 65536, 65537, 1 << 24, 1 << 30, math.MaxInt32 - 1, math.MaxInt32} {
			lacks(t, i, label, n)
		}
	}
	lacks(t, i, 1, 1)
	lacks(t, i, 1, 2)
}

func TestP14_1_NoSuchLabel(t *testing.T) {
	for _, i := range []*input.Inputs{input.New([]int32{1, 2, 3}, []int32{4}), input.New()} {
		for _, label := range []int{math.MinInt, math.MinInt + 1, math.MinInt32, -1 << 32, -1<<32 + 1, -65536, -16, -2, -1, 2, 3, 15, 16, 255, 256, 257, 65536, 65537, math.MaxInt32, 1 << 32, 1<<32 + 1, 1 << 48, math.MaxInt} {
			counts(t, i, label, 0)
			for _, n := range []int32{math.MinInt32, -1, 0, 1, 2, 3, math.MaxInt32} {
				lacks(t, i, label, n)
			}
		}
	}
}

// TestP14_1_NoLimit: neither MaxLabels nor MaxInputs is one here.
func TestP14_1_NoLimit(t *testing.T) {
	for _, labels := range []int{15, 16, 17, 18, 64, 65, 300} {
		l := make([][]int32, labels)
		for label := range l {
			for n := range label {
				l[label] = append(l[label], int32(label*1000+n))
			}
		}
		is(t, input.New(l...), l...)
	}
	for _, size := range []int{63, 64, 65, 66, 4096, 100000} {
		l := make([]int32, size)
		for n := range l {
			l[n] = int32(n * n)
		}
		is(t, input.New(nil, l), nil, l)
	}
}

// TestP14_1_ArgumentsNotKept: what happens later to the lists is of no account, and no call changes them.
func TestP14_1_ArgumentsNotKept(t *testing.T) {
	whole := []int32{1, 2, 3, 901, 902}
	lists := [][]int32{whole[:2], {4}, whole[2:3], {903}}
	i := input.New(lists[:3]...)
	want := [][]int32{{1, 2}, {4}, {3}}
	is(t, i, want...)
	if !slices.Equal(whole, []int32{1, 2, 3, 901, 902}) || len(lists[1]) != 1 || lists[1][0] != 4 || lists[3][0] != 903 {
		t.Errorf("the lists are now %v, with %v behind them", lists, whole)
	}
	for n := range whole {
		whole[n] = -1
	}
	lists[1][0] = -1
	is(t, i, want...)
	for n := range lists {
		lists[n] = []int32{9, 9, 9}
	}
	is(t, i, want...)
}

// TestP14_2_InputsOfEachLabel: also those that were given as one list.
func TestP14_2_InputsOfEachLabel(t *testing.T) {
	next := scramble(14)
	for range 200 {
		var l [][]int32
		for range next(20) {
			var values []int32
			for range next(10) {
				values = append(values, int32(next(1<<31)-1<<30))
			}
			l = append(l, values)
		}
		is(t, input.New(l...), l...)
	}
	one := []int32{1, 2, 3}
	is(t, input.New(one, one, one[:1]), one, one, []int32{1})
}

// TestP14_1_Again: no answer changes the next one, nor another's inputs.
func TestP14_1_Again(t *testing.T) {
	a, b := input.New([]int32{1, 2}, []int32{3}), input.New([]int32{4}, []int32{5, 6})
	for range 3 {
		is(t, a, []int32{1, 2}, []int32{3})
		is(t, b, []int32{4}, []int32{5, 6})
	}
	var all sync.WaitGroup
	for g := range int32(8) {
		all.Go(func() {
			is(t, a, []int32{1, 2}, []int32{3})
			is(t, input.New([]int32{g}, nil, []int32{g + 1}), []int32{g}, nil, []int32{g + 1})
		})
	}
	all.Wait()
}
