package trace_test

import (
	"bytes"
	"fmt"
	"math"
	"slices"
	"sync"
	"testing"

	"confidant/api"
	"confidant/pack"
	"confidant/trace"
)

// scramble yields numbers: the same ones in every run.
func scramble(seed uint64) func(n int) int {
	return func(n int) int {
		seed = seed*6364136223846793005 + 1442695040888963407
		return int(seed>>33) % n
	}
}

// someEvent has different values everywhere.
func someEvent(n int) api.Event {
	return api.Event{Round: n, Label: n % 5, Kind: 1 + n%11, Worker: n % 7, Task: int32(n + 3), A: int32(n + 4), B: int32(n + 5)}
}

func someEvents(size int) []api.Event {
	var out []api.Event
	for n := range size {
		out = append(out, someEvent(n))
	}
	return out
}

// strangeEvents are those of no valid list.
func strangeEvents() []api.Event {
	return []api.Event{{}, {Round: -1, Label: -2, Kind: -3, Worker: -4, Task: -5, A: -6, B: -7}, {Round: math.MaxInt, Label: math.MaxInt, Kind: math.MaxInt, Worker: math.MaxInt, Task: math.MaxInt32}, {Round: math.MinInt, Label: math.MinInt, Kind: math.MinInt, Worker: math.MinInt, Task: math.MinInt32}, {}}
}

// is asks for all events of a trace.
func is(t *testing.T, x *trace.Trace, want ...api.Event) {
	t.Helper()
	if got := x.All(); !slices.Equal(got, want) {
		t.Errorf("All: %v, want %v", got, want)
	}
}

func TestP23_1_Add(t *testing.T) {
	x := trace.New()
	is(t, x)
	x.Add()
	is(t, x)
	all := someEvents(20)
	x.Add(all[0])
	is(t, x, all[0])
	x.Add(all[1:4]...)
	is(t, x, all[:4]...)
	x.Add()
	x.Add(all[4], all[5])
	is(t, x, all[:6]...)
	x.Add(all[2], all[2])
	x.Add(strangeEvents()...)
	is(t, x, slices.Concat(all[:6], []api.Event{all[2], all[2]}, strangeEvents())...)
}

// TestP23_1_Pick: by every number alone, and by several, in whatever order.
func TestP23_1_Pick(t *testing.T) {
	all := append(someEvents(60), strangeEvents()...)
	before := slices.Clone(all)
	numbers := []int{math.MinInt, -1 << 32, -4, -3, -2, -1, 0, 1, 2, 3, 4, 5, 6, 7, 8, 9, 10, 11, 12, 16, 1 << 32, 1<<32 + 1, math.MaxInt}
	lists := [][]int{nil, {}, numbers, {3, 2, 1}, {2, 2, 2}, {9, 4, 9, 1 << 40}, {11, 0, -3}, {0, 4}}
	for _, n := range numbers {
		lists = append(lists, []int{n})
	}
	for _, wanted := range lists {
		given := slices.Clone(wanted)
		var labels, kinds []api.Event
		for _, e := range all {
			if slices.Contains(wanted, e.Label) {
				labels = append(labels, e)
			}
			if slices.Contains(wanted, e.Kind) {
				kinds = append(kinds, e)
			}
		}
		if got := trace.Of(all, wanted...); !slices.Equal(got, labels) {
			t.Errorf("Of(%v): %v, want %v", wanted, got, labels)
		}
		if got := trace.Kinds(all, wanted...); !slices.Equal(got, kinds) {
			t.Errorf("Kinds(%v): %v, want %v", wanted, got, kinds)
		}
		if !slices.Equal(wanted, given) || !slices.Equal(all, before) {
			t.Fatalf("Of or Kinds changed its arguments")
		}
	}
	if trace.Of(nil, 1) != nil || trace.Kinds(nil, 1) != nil || trace.Of(all) != nil || trace.Kinds(all) != nil {
		t.Error("Of, Kinds: something of nothing")
	}
}

// TestP23_1_Right: each number around its bounds, the others in the middle.
func TestP23_1_Right(t *testing.T) {
	good := api.Event{Round: 3, Label: 2, Kind: api.EvWake, Worker: 1, Task: 4, A: 5, B: 6}
	valid(t, true, good)
	for _, n := range []int{math.MinInt, -1 << 32, -1<<32 + 1, -65536, -16, -1, 0, 1, 2, 6, 7, 8, 9, 10, 11, 12, 13, 15, 16, 17, 255, 256, 257, 65535, 65536, 65537, 1 << 31, 1 << 32, 1<<32 + 1, 1<<32 + 65536, math.MaxInt} {
		e := good
		e.Round = n
		valid(t, n >= 0 && n <= 65536, e)
		e = good
		e.Label = n
		valid(t, n >= 0 && n <= 15, e)
		e = good
		e.Kind = n
		valid(t, n >= 1 && n <= 11, e)
		e = good
		e.Worker = n
		valid(t, n >= 0 && n <= 7, e)
	}
	for _, n := range []int32{math.MinInt32, -65536, -1, 0, 1, 65536, math.MaxInt32} {
		e := good
		e.Task = n
		valid(t, n >= 0, e)
		e = good
		e.A = n
		valid(t, true, e)
		e = good
		e.B = n
		valid(t, true, e)
	}
	valid(t, true, api.Event{Kind: api.EvTake})
	valid(t, true, api.Event{Round: 65536, Label: 15, Kind: api.EvFail, Worker: 7, Task: math.MaxInt32, A: math.MinInt32, B: math.MaxInt32})
	for _, e := range strangeEvents() {
		valid(t, false, e)
	}
}

// valid asks whether an event is valid, and for what follows from that.
func valid(t *testing.T, want bool, e api.Event) {
	t.Helper()
	if got := trace.Right(e); got != want {
		t.Errorf("Right(%v): %v", e, got)
	}
	if got := trace.Text(e); got != textOf(e, want) {
		t.Errorf("Text(%v): %q, want %q", e, got, textOf(e, want))
	}
	puts(t, want, e)
	for at := range 3 {
		puts(t, want, slices.Insert(someEvents(2), at, e)...)
	}
}

// textOf is Text as the chapter tells it.
func textOf(e api.Event, valid bool) string {
	if !valid {
		return ""
	}
	word := []string{"", "take", "steal", "miss", "park", "wake", "leave", "enter", "fork", "emit", "done", "fail"}[e.Kind]
	return fmt.Sprintf("%d %d %s %d %d %d %d", e.Round, e.Label, word, e.Worker, e.Task, e.A, e.B)
}

// bytesOf is Put as the chapter tells it.
func bytesOf(l []api.Event) []byte {
	out := pack.Put(uint64(len(l)))
	for _, e := range l {
		out = append(out, pack.Put(uint64(e.Round), uint64(e.Label), uint64(e.Kind), uint64(e.Worker), uint64(e.Task), (uint64(e.A)+1<<32)%(1<<32), (uint64(e.B)+1<<32)%(1<<32))...)
	}
	return out
}

// puts asks for the bytes of a list, and for the list of the bytes.
func puts(t *testing.T, valid bool, l ...api.Event) {
	t.Helper()
	before := slices.Clone(l)
	b := trace.Put(l)
	if !slices.Equal(l, before) {
		t.Errorf("the list is now %v, it was %v", l, before)
	}
	if !valid {
		if b != nil {
			t.Errorf("Put(%v): %v", l, b)
		}
		return
	}
	if !bytes.Equal(b, bytesOf(l)) {
		t.Errorf("Put(%v): %v, want %v", l, b, bytesOf(l))
	}
	reads(t, b, l...)
}

func reads(t *testing.T, b []byte, want ...api.Event) {
	t.Helper()
	before := bytes.Clone(b)
	if got, err := trace.Read(b); !slices.Equal(got, want) || err != api.OK {
		t.Errorf("Read(%v): %v, %d; want %v", b, got, err, want)
	}
	if !bytes.Equal(b, before) {
		t.Errorf("the bytes are now %v, they were %v", b, before)
	}
}

func refuses(t *testing.T, b []byte) {
	t.Helper()
	if got, err := trace.Read(b); got != nil || err != api.ErrBytes {
		t.Errorf("Read(%v): %v, %d", b, got, err)
	}
}

func TestP23_2_Text(t *testing.T) {
	for _, c := range []struct {
		e    api.Event
		text string
	}{
		{api.Event{Round: 3, Kind: api.EvTake, Worker: 1, Task: 65536}, "3 0 take 1 65536 0 0"},
		{api.Event{Kind: api.EvSteal, A: 1, B: 2}, "0 0 steal 0 0 1 2"},
		{api.Event{Label: 15, Kind: api.EvMiss, Worker: 7, A: 6}, "0 15 miss 7 0 6 0"},
		{api.Event{Round: 65536, Label: 1, Kind: api.EvPark, A: 65537}, "65536 1 park 0 0 65537 0"},
		{api.Event{Kind: api.EvWake, B: -1}, "0 0 wake 0 0 0 -1"},
		{api.Event{Kind: api.EvLeave, A: 12}, "0 0 leave 0 0 12 0"},
		{api.Event{Kind: api.EvEnter, Task: math.MaxInt32}, "0 0 enter 0 2147483647 0 0"},
		{api.Event{Kind: api.EvFork, A: 100000}, "0 0 fork 0 0 100000 0"},
		{api.Event{Kind: api.EvEmit, A: math.MinInt32, B: math.MaxInt32}, "0 0 emit 0 0 -2147483648 2147483647"},
		{api.Event{Kind: api.EvDone, A: -7}, "0 0 done 0 0 -7 0"},
		{api.Event{Round: 10, Label: 2, Kind: api.EvFail, Worker: 3, Task: 4, A: 37}, "10 2 fail 3 4 37 0"},
		{api.Event{}, ""},
		{api.Event{Kind: 12}, ""},
		{api.Event{Kind: api.EvTake, Task: -1}, ""},
	} {
		if got := trace.Text(c.e); got != c.text {
			t.Errorf("Text(%v): %q, want %q", c.e, got, c.text)
		}
	}
	for kind := range 12 {
		valid(t, kind > 0, api.Event{Kind: kind, Worker: 2})
	}
}

func TestP23_2_Bytes(t *testing.T) {
	for _, c := range []struct {
		l []api.Event
		b []byte
	}{
		{nil, []byte{0}},
		{[]api.Event{{Kind: 1}}, []byte{1, 0, 0, 1, 0, 0, 0, 0}},
		{[]api.Event{{Round: 2, Label: 3, Kind: 4, Worker: 5, Task: 6, A: 7, B: 8}}, []byte{1, 2, 3, 4, 5, 6, 7, 8}},
		{[]api.Event{{Kind: 11, A: -1, B: math.MinInt32}}, []byte{1, 0, 0, 11, 0, 0, 0x8f, 0xff, 0xff, 0xff, 0x7f, 0x88, 0x80, 0x80, 0x80, 0}},
		{[]api.Event{{Round: 300, Kind: 2}, {Round: 1, Kind: 3, Task: 300}}, []byte{2, 0x82, 0x2c, 0, 2, 0, 0, 0, 0, 1, 0, 3, 0, 0x82, 0x2c, 0, 0}},
	} {
		puts(t, true, c.l...)
		if got := trace.Put(c.l); !bytes.Equal(got, c.b) {
			t.Errorf("Put(%v): %v, want %v", c.l, got, c.b)
		}
		reads(t, c.b, c.l...)
	}
}

// TestP23_2_OtherBytes: cut off, continued, with other codes of the same numbers, and with numbers of no valid event.
func TestP23_2_OtherBytes(t *testing.T) {
	b := trace.Put([]api.Event{{Round: 300, Label: 15, Kind: 11, Worker: 7, Task: 65536, A: -1, B: 500}, {Kind: 1}, someEvent(9)})
	for n := range b {
		refuses(t, b[:n])
	}
	for c := range 256 {
		refuses(t, append(bytes.Clone(b), byte(c)))
	}
	refuses(t, nil)
	refuses(t, []byte{0, 0})
	refuses(t, []byte{0x80, 0})
	refuses(t, []byte{1, 0x80, 0, 0, 1, 0, 0, 0, 0})
	for _, bad := range [][]uint64{
		{1, 65537, 0, 1, 0, 0, 0, 0}, {1, 0, 16, 1, 0, 0, 0, 0}, {1, 0, 0, 0, 0, 0, 0, 0}, {1, 0, 0, 12, 0, 0, 0, 0}, {1, 0, 0, 1, 8, 0, 0, 0}, {1, 0, 0, 1, 0, 1 << 31, 0, 0}, {1, 0, 0, 1, 0, 1 << 32, 0, 0},
		{1, 0, 0, 1, 0, 0, 1 << 32, 0}, {1, 0, 0, 1, 0, 0, 0, 1 << 32}, {1, 0, 0, 1, 0, 0, math.MaxUint64, 0}, {1, 0, 0, 1, 0, 0, 0, math.MaxUint64}, {1, 0, 0, 1, 0, math.MaxUint64, 0, 0},
		{1, math.MaxUint64, 0, 1, 0, 0, 0, 0}, {1, 1 << 63, 0, 1, 0, 0, 0, 0}, {1, 0, 1 << 63, 1, 0, 0, 0, 0}, {1, 0, 0, 1<<63 + 1, 0, 0, 0, 0}, {1, 0, 0, 1, 1 << 63, 0, 0, 0}, {1, 1 << 32, 0, 1, 0, 0, 0, 0}, {1, 0, 1 << 32, 1, 0, 0, 0, 0}, {1, 0, 0, 1<<32 + 1, 0, 0, 0, 0}, {1, 0, 0, 1, 1 << 32, 0, 0, 0},
		{2, 0, 0, 1, 0, 0, 0, 0}, {0, 0, 0, 1, 0, 0, 0, 0}, {2, 0, 0, 1, 0, 0, 0, 0, 0, 0, 0, 0, 0, 0, 0}, {1 << 63}, {1<<63 - 1}, {math.MaxUint64}, {1<<63 - 1, 0, 0, 1, 0, 0, 0, 0}, {1 << 63, 0, 0, 1, 0, 0, 0, 0},
	} {
		refuses(t, pack.Put(bad...))
	}
	reads(t, pack.Put(1, 65536, 15, 11, 7, 1<<31-1, 1<<32-1, 1<<31), api.Event{Round: 65536, Label: 15, Kind: 11, Worker: 7, Task: math.MaxInt32, A: -1, B: math.MinInt32})
}

// TestP23_2_AllShortBytes: what is read is what is written, for all strings of small bytes.
func TestP23_2_AllShortBytes(t *testing.T) {
	b := make([]byte, 9)
	for code := range 1 << 18 {
		for n := range b {
			b[n] = byte(code >> (2 * n) & 3)
		}
		for _, size := range []int{1, 8, 9} {
			l, err := trace.Read(b[:size])
			if err == api.OK && !bytes.Equal(trace.Put(l), b[:size]) || err != api.OK && (l != nil || err != api.ErrBytes) {
				t.Fatalf("Read(%v): %v, %d", b[:size], l, err)
			}
			if want := size == 1 && b[0] == 0 || size == 8 && b[0] == 1 && b[3] > 0; want != (err == api.OK) {
				t.Fatalf("Read(%v): %v, %d", b[:size], l, err)
			}
		}
	}
}

func TestP23_2_RandomLists(t *testing.T) {
	next := scramble(23)
	for range 3000 {
		var l []api.Event
		for range next(8) {
			l = append(l, api.Event{Round: next(65537), Label: next(16), Kind: 1 + next(11), Worker: next(8), Task: int32(next(1 << 31)), A: int32(next(1<<31)) * int32(next(3)-1), B: int32(next(300) - 150)})
		}
		puts(t, true, l...)
		changed := trace.Put(l)
		changed[next(len(changed))] ^= 1 << next(8)
		other, err := trace.Read(changed)
		if err == api.OK && !bytes.Equal(trace.Put(other), changed) || err != api.OK && (other != nil || err != api.ErrBytes) {
			t.Fatalf("Read(%v): %v, %d", changed, other, err)
		}
	}
}

// TestP23_1_NothingShared: no answer has memory in common with an argument or another answer.
func TestP23_1_NothingShared(t *testing.T) {
	whole := someEvents(6)
	x := trace.New()
	x.Add(whole[:4]...)
	x.Add(whole[4])
	clear(trace.Of(whole, 0, 1, 2, 3, 4))
	clear(trace.Kinds(whole, 1, 2, 3, 4, 5, 6, 7, 8, 9, 10, 11))
	_ = append(trace.Of(whole[:2], 0, 1), api.Event{A: 99})
	if !slices.Equal(whole, someEvents(6)) {
		t.Errorf("the events are now %v", whole)
	}
	clear(whole)
	is(t, x, someEvents(5)...)
	clear(x.All())
	_ = append(x.All()[:2], api.Event{A: 99})
	before := x.All()
	x.Add(someEvent(5))
	_ = append(before, api.Event{A: 98})
	is(t, x, someEvents(6)...)
	b := trace.Put(someEvents(3))
	want := bytes.Clone(b)
	first, _ := trace.Read(b)
	second, _ := trace.Read(b)
	clear(first)
	clear(trace.Put(someEvents(3)))
	if !bytes.Equal(b, want) || !slices.Equal(second, someEvents(3)) {
		t.Errorf("now %v, %v", b, second)
	}
}

// TestP23_3_Everything: there is no limit, and what was added is there after it has been written and read.
func TestP23_3_Everything(t *testing.T) {
	x := trace.New()
	for n := range 50000 {
		x.Add(someEvent(n))
	}
	is(t, x, someEvents(50000)...)
	reads(t, trace.Put(x.All()), someEvents(50000)...)
}

// TestP23_1_SideBySide: traces have nothing in common, in one goroutine or in several.
func TestP23_1_SideBySide(t *testing.T) {
	a, b := trace.New(), trace.New()
	a.Add(someEvent(1))
	is(t, b)
	b.Add(someEvent(2))
	is(t, a, someEvent(1))
	is(t, b, someEvent(2))
	var all sync.WaitGroup
	for range 8 {
		all.Go(func() {
			x := trace.New()
			for n := range 100 {
				x.Add(someEvent(n))
			}
			is(t, x, someEvents(100)...)
		})
	}
	all.Wait()
}
