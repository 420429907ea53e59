package audit_test

import (
	"bytes"
	"math"
	"slices"
	"sync"
	"testing"

	"confidant/api"
	"confidant/audit"
	"confidant/pack"
)

// scramble yields numbers: the same ones in every run.
func scramble(seed uint64) func(n int) int {
	return func(n int) int {
		seed = seed*6364136223846793005 + 1442695040888963407
		return int(seed>>33) % n
	}
}

// someRecord has different values everywhere.
func someRecord(n int) api.Record {
	return api.Record{Seq: n, Gate: n + 1, To: n % 5, Value: int32(n + 3), Round: n + 4, By: int32(n + 5)}
}

func someRecords(size int) []api.Record {
	var out []api.Record
	for n := range size {
		out = append(out, someRecord(n))
	}
	return out
}

// is asks for all records of a log.
func is(t *testing.T, l *audit.Log, want ...api.Record) {
	t.Helper()
	if got := l.All(); !slices.Equal(got, want) {
		t.Errorf("All: %v, want %v", got, want)
	}
}

// of asks for the records of some labels.
func of(t *testing.T, l *audit.Log, to []int, want ...api.Record) {
	t.Helper()
	if got := l.Of(to...); !slices.Equal(got, want) {
		t.Errorf("Of(%v): %v, want %v", to, got, want)
	}
}

func TestP22_1_Add(t *testing.T) {
	l := audit.New()
	is(t, l)
	of(t, l, nil)
	of(t, l, []int{0, 1})
	l.Add()
	is(t, l)
	all := someRecords(20)
	l.Add(all[0])
	is(t, l, all[0])
	l.Add(all[1:4]...)
	is(t, l, all[:4]...)
	l.Add()
	l.Add(all[4], all[5])
	is(t, l, all[:6]...)
	l.Add(all[2], all[2])
	is(t, l, append(slices.Clone(all[:6]), all[2], all[2])...)
}

// TestP22_1_AnyRecords: those of no valid list are kept too.
func TestP22_1_AnyRecords(t *testing.T) {
	all := []api.Record{{}, {Seq: -1, Gate: -2, To: -3, Value: -4, Round: -5, By: -6}, {Seq: math.MaxInt, Gate: math.MinInt, To: math.MaxInt, Value: math.MinInt32, Round: math.MinInt, By: math.MinInt32}, {}, {Round: 9}, {Round: 8}}
	l := audit.New()
	l.Add(all...)
	is(t, l, all...)
	of(t, l, []int{-3}, all[1])
	of(t, l, []int{math.MaxInt, -3}, all[1], all[2])
	of(t, l, []int{0}, all[0], all[3], all[4], all[5])
}

// TestP22_1_Of: in the order of the log, each record once, whatever the order of the labels is.
func TestP22_1_Of(t *testing.T) {
	all := someRecords(13)
	l := audit.New()
	l.Add(all...)
	of(t, l, nil)
	of(t, l, []int{5, -1, math.MinInt, 1 << 32, math.MaxInt})
	of(t, l, []int{0}, all[0], all[5], all[10])
	of(t, l, []int{4}, all[4], all[9])
	of(t, l, []int{2, 1}, all[1], all[2], all[6], all[7], all[11], all[12])
	of(t, l, []int{2, 9, 2, 1, 1, 2}, all[1], all[2], all[6], all[7], all[11], all[12])
	of(t, l, []int{4, 3, 2, 1, 0}, all...)
	is(t, l, all...)
}

// TestP22_1_NothingShared: neither with the records that go in nor with those that come out.
func TestP22_1_NothingShared(t *testing.T) {
	whole := someRecords(6)
	l := audit.New()
	l.Add(whole[:4]...)
	l.Add(whole[4])
	if !slices.Equal(whole, someRecords(6)) {
		t.Errorf("the records are now %v", whole)
	}
	clear(whole)
	is(t, l, someRecords(5)...)
	clear(l.All())
	_ = append(l.All()[:2], api.Record{Value: 99})
	clear(l.Of(0, 1, 2, 3, 4))
	before := l.All()
	l.Add(someRecord(5))
	_ = append(before, api.Record{Value: 98})
	is(t, l, someRecords(6)...)
	to := []int{3, 1, 2}
	l.Of(to...)
	if !slices.Equal(to, []int{3, 1, 2}) {
		t.Errorf("the labels are now %v", to)
	}
}

// TestP22_1_Many: there is no limit.
func TestP22_1_Many(t *testing.T) {
	l := audit.New()
	for n := range 50000 {
		l.Add(someRecord(n))
	}
	is(t, l, someRecords(50000)...)
	if got := l.Of(3); len(got) != 10000 {
		t.Errorf("Of(3): %d", len(got))
	}
}

// right asks whether a list is valid, and for the bytes that follow from that.
func right(t *testing.T, want bool, l ...api.Record) {
	t.Helper()
	before := slices.Clone(l)
	if got := audit.Right(l); got != want {
		t.Errorf("Right(%v): %v", l, got)
	}
	b := audit.Put(l)
	if !slices.Equal(l, before) {
		t.Errorf("the list is now %v, it was %v", l, before)
	}
	if !want {
		if b != nil {
			t.Errorf("Put(%v): %v", l, b)
		}
		return
	}
	if !bytes.Equal(b, bytesOf(l)) {
		t.Errorf("Put(%v): %v, want %v", l, b, bytesOf(l))
	}
	reads(t, b, l...)
}

// bytesOf is Put as the chapter tells it.
func bytesOf(l []api.Record) []byte {
	out := pack.Put(uint64(len(l)))
	for _, r := range l {
		out = append(out, pack.Put(uint64(r.Seq), uint64(r.Gate), uint64(r.To), (uint64(r.Value)+1<<32)%(1<<32), uint64(r.Round), uint64(r.By))...)
	}
	return out
}

func reads(t *testing.T, b []byte, want ...api.Record) {
	t.Helper()
	before := bytes.Clone(b)
	if got, err := audit.Read(b); !slices.Equal(got, want) || err != api.OK {
		t.Errorf("Read(%v): %v, %d; want %v", b, got, err, want)
	}
	if !bytes.Equal(b, before) {
		t.Errorf("the bytes are now %v, they were %v", b, before)
	}
}

func refuses(t *testing.T, b []byte) {
	t.Helper()
	if got, err := audit.Read(b); got != nil || err != api.ErrBytes {
		t.Errorf("Read(%v): %v, %d", b, got, err)
	}
}

func TestP22_1_RightSeq(t *testing.T) {
	to := func(seq, to int) api.Record { return api.Record{Seq: seq, To: to} }
	right(t, true)
	right(t, true, to(0, 0))
	right(t, true, to(0, 7), to(1, 7), to(2, 7), to(3, 7))
	right(t, true, to(0, 1), to(0, 0), to(1, 0), to(1, 1), to(0, 99), to(2, 0), to(2, 1))
	right(t, true, to(0, math.MaxInt), to(0, 0), to(1, math.MaxInt))
	for _, bad := range [][]api.Record{
		{to(1, 0)}, {to(-1, 0)}, {to(2, 0)}, {to(math.MaxInt, 0)}, {to(math.MinInt, 0)}, {to(0, 0), to(0, 0)}, {to(0, 0), to(2, 0)}, {to(0, 0), to(1, 1)},
		{to(0, 0), to(1, 0), to(1, 0)}, {to(0, 0), to(1, 0), to(0, 0)}, {to(1, 0), to(0, 0)}, {to(0, 0), to(0, 1), to(2, 1)}, {to(0, 1), to(1, 0)}, {to(0, 0), to(0, 1), to(1, 1), to(1, 1)},
	} {
		right(t, false, bad...)
	}
}

func TestP22_1_RightRounds(t *testing.T) {
	at := func(rounds ...int) []api.Record {
		var out []api.Record
		for n, round := range rounds {
			out = append(out, api.Record{Seq: n, Round: round})
		}
		return out
	}
	for _, good := range [][]int{{0}, {1}, {math.MaxInt}, {0, 0, 0}, {3, 3, 4, 4, 9}, {0, math.MaxInt}, {65536, 65537, 1 << 40}} {
		right(t, true, at(good...)...)
	}
	for _, bad := range [][]int{{-1}, {math.MinInt}, {-1 << 32}, {-1, 0}, {0, -1}, {1, 0}, {5, 4}, {0, 5, 4, 6}, {2, 1, 2}, {math.MaxInt, 0}, {1 << 32, 1}, {-2, -1}} {
		right(t, false, at(bad...)...)
	}
	// over all labels, not for each one
	right(t, false, api.Record{Round: 5}, api.Record{To: 1, Round: 4})
	right(t, true, api.Record{Round: 5}, api.Record{To: 1, Round: 5})
}

func TestP22_1_RightNumbers(t *testing.T) {
	good := api.Record{Gate: 3, To: 4, Value: 5, Round: 6, By: 7}
	for _, n := range []int{0, 1, 15, 16, 17, 1 << 32, math.MaxInt, -1, -2, -1 << 32, -1<<32 + 1, math.MinInt} {
		r := good
		r.Gate = n
		right(t, n >= 0, r)
		r = good
		r.To = n
		right(t, n >= 0, r)
		right(t, n >= 0, good, api.Record{Seq: 1, Gate: n, To: 4, Round: 6})
	}
	for _, n := range []int32{0, 1, 65535, 65536, math.MaxInt32, -1, -2, math.MinInt32} {
		r := good
		r.By = n
		right(t, n >= 0, r)
		r = good
		r.Value = n
		right(t, true, r)
	}
}

func TestP22_2_Bytes(t *testing.T) {
	for _, c := range []struct {
		l []api.Record
		b []byte
	}{
		{nil, []byte{0}},
		{[]api.Record{{}}, []byte{1, 0, 0, 0, 0, 0, 0}},
		{[]api.Record{{Gate: 2, To: 3, Value: 4, Round: 5, By: 6}}, []byte{1, 0, 2, 3, 4, 5, 6}},
		{[]api.Record{{Value: -1}}, []byte{1, 0, 0, 0, 0x8f, 0xff, 0xff, 0xff, 0x7f, 0, 0}},
		{[]api.Record{{Value: math.MinInt32, By: 300}}, []byte{1, 0, 0, 0, 0x88, 0x80, 0x80, 0x80, 0, 0, 0x82, 0x2c}},
		{[]api.Record{{To: 1, Round: 300}, {To: 2, Round: 300}, {Seq: 1, Gate: 9, To: 1, Round: 301}}, []byte{3, 0, 0, 1, 0, 0x82, 0x2c, 0, 0, 0, 2, 0, 0x82, 0x2c, 0, 1, 9, 1, 0, 0x82, 0x2d, 0}},
	} {
		right(t, true, c.l...)
		if got := audit.Put(c.l); !bytes.Equal(got, c.b) {
			t.Errorf("Put(%v): %v, want %v", c.l, got, c.b)
		}
		reads(t, c.b, c.l...)
	}
}

// TestP22_2_OtherBytes: cut off, continued, with other codes of the same numbers, and with numbers of no valid list.
func TestP22_2_OtherBytes(t *testing.T) {
	b := audit.Put([]api.Record{{Gate: 200, To: 3, Value: -4, Round: 500, By: 6}, {Gate: 2, To: 1, Value: 4, Round: 500, By: 60000}, {Seq: 1, To: 3, Round: 501}})
	for n := range b {
		refuses(t, b[:n])
	}
	for c := range 256 {
		refuses(t, append(bytes.Clone(b), byte(c)))
	}
	refuses(t, nil)
	refuses(t, []byte{0, 0})
	refuses(t, []byte{0x80, 0})
	refuses(t, []byte{1, 0x80, 0, 0, 0, 0, 0, 0})
	for _, bad := range [][]uint64{
		{1, 1, 0, 0, 0, 0, 0}, {2, 0, 0, 0, 0, 0, 0, 0, 0, 0, 0, 0, 0}, {2, 0, 0, 0, 0, 5, 0, 0, 0, 1, 0, 4, 0},
		{1, 0, 0, 0, 1 << 32, 0, 0}, {1, 0, 0, 0, math.MaxUint64, 0, 0}, {1, 0, 0, 0, 0, 0, 1 << 31}, {1, 0, 0, 0, 0, 0, 1 << 32}, {1, 0, 0, 0, 0, 0, math.MaxUint64},
		{1, 0, 1 << 63, 0, 0, 0, 0}, {1, 0, 0, 1 << 63, 0, 0, 0}, {1, 0, 0, 0, 0, 1 << 63, 0}, {1, 1 << 63, 0, 0, 0, 0, 0}, {1, math.MaxUint64, 0, 0, 0, 0, 0}, {1, 0, math.MaxUint64, 0, 0, 0, 0},
		{2, 0, 0, 0, 0, 0, 0}, {0, 0, 0, 0, 0, 0, 0}, {1 << 63}, {1<<63 - 1}, {math.MaxUint64}, {1<<63 - 1, 0, 0, 0, 0, 0, 0}, {1 << 63, 0, 0, 0, 0, 0, 0},
	} {
		refuses(t, pack.Put(bad...))
	}
	for _, good := range [][]uint64{{1, 0, 1<<63 - 1, 1<<63 - 1, 1<<32 - 1, 1<<63 - 1, 1<<31 - 1}} {
		reads(t, pack.Put(good...), api.Record{Gate: math.MaxInt, To: math.MaxInt, Value: -1, Round: math.MaxInt, By: math.MaxInt32})
	}
}

// TestP22_2_AllShortBytes: what is read is what is written, for all strings of small bytes.
func TestP22_2_AllShortBytes(t *testing.T) {
	b := make([]byte, 8)
	for code := range 1 << 16 {
		for n := range b {
			b[n] = byte(code >> (2 * n) & 3)
		}
		for _, size := range []int{1, 7, 8} {
			l, err := audit.Read(b[:size])
			again := audit.Put(l)
			if (err == api.OK) != bytes.Equal(again, b[:size]) || err != api.OK && (l != nil || err != api.ErrBytes) {
				t.Fatalf("Read(%v): %v, %d; Put %v", b[:size], l, err, again)
			}
		}
	}
}

func TestP22_2_RandomLists(t *testing.T) {
	next := scramble(22)
	numbers := []int{0, 1, 2, 127, 128, 300, 65536, 1 << 35, math.MaxInt}
	for range 3000 {
		var l []api.Record
		seqs, round := map[int]int{}, 0
		for range next(8) {
			to := next(3)
			round += next(3) * next(200)
			l = append(l, api.Record{Seq: seqs[to], Gate: numbers[next(len(numbers))], To: to, Value: int32(next(1<<31)) * int32(next(3)-1), Round: round, By: int32(next(1 << 30))})
			seqs[to]++
		}
		right(t, true, l...)
		b := audit.Put(l)
		changed := bytes.Clone(b)
		changed[next(len(b))] ^= 1 << next(8)
		other, err := audit.Read(changed)
		if err == api.OK && !bytes.Equal(audit.Put(other), changed) || err != api.OK && (other != nil || err != api.ErrBytes) {
			t.Fatalf("Read(%v): %v, %d", changed, other, err)
		}
	}
}

// TestP22_2_LongList: of some thousand records.
func TestP22_2_LongList(t *testing.T) {
	var l []api.Record
	for n := range 5000 {
		l = append(l, api.Record{Seq: n / 2, To: n % 2, Round: n})
	}
	right(t, true, l...)
	right(t, false, append(l, api.Record{Seq: 2499, To: 1, Round: 5000})...)
}

// TestP22_2_NothingShared: no answer has memory in common with an argument or another answer.
func TestP22_2_NothingShared(t *testing.T) {
	l := []api.Record{{Value: 1}, {Seq: 1, Value: 2}, {Seq: 99, Value: 99}}
	b := audit.Put(l[:2])
	want := bytes.Clone(b)
	clear(audit.Put(l[:2]))
	first, _ := audit.Read(b)
	second, _ := audit.Read(b)
	clear(first)
	clear(l[:2])
	if !slices.Equal(second, []api.Record{{Value: 1}, {Seq: 1, Value: 2}}) || !bytes.Equal(b, want) || l[2].Seq != 99 {
		t.Errorf("now %v, %v, %v", second, b, l)
	}
}

// TestP22_3_LogToBytes: what has been added is there after it has been written and read.
func TestP22_3_LogToBytes(t *testing.T) {
	l := audit.New()
	for n := range 100 {
		l.Add(api.Record{Seq: n, Gate: n % 7, To: 5, Value: int32(n - 50), Round: n, By: int32(n * 3)})
	}
	back, err := audit.Read(audit.Put(l.All()))
	if err != api.OK {
		t.Errorf("Read: %d", err)
	}
	is(t, l, back...)
}

// TestP22_1_SideBySide: logs have nothing in common, in one goroutine or in several.
func TestP22_1_SideBySide(t *testing.T) {
	a, b := audit.New(), audit.New()
	a.Add(someRecord(1))
	is(t, b)
	b.Add(someRecord(2))
	is(t, a, someRecord(1))
	is(t, b, someRecord(2))
	var all sync.WaitGroup
	for range 8 {
		all.Go(func() {
			l := audit.New()
			for n := range 100 {
				l.Add(someRecord(n))
			}
			is(t, l, someRecords(100)...)
		})
	}
	all.Wait()
}
