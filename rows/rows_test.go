package rows_test

import (
	"bytes"
	"math"
	"slices"
	"testing"

	"confidant/api"
	"confidant/pack"
	"confidant/rows"
)

func put(n uint64) []byte {
	return pack.Put(n)
}

func take(r *pack.Reader) uint64 {
	return r.Num(300)
}

func TestP22_2_Lists(t *testing.T) {
	for _, l := range [][]uint64{nil, {}, {0}, {300}, {1, 2, 300, 0}, make([]uint64, 1000)} {
		b := rows.Put(l, put)
		if want := append(pack.Put(uint64(len(l))), pack.Put(l...)...); !bytes.Equal(b, want) {
			t.Errorf("Put(%v): %v, want %v", l, b, want)
		}
		r := pack.New(append(b, 7))
		if got := rows.Take(r, take); !slices.Equal(got, l) || r.Err() != api.OK || r.Left() != 1 {
			t.Errorf("Take of %v: %v, error %d, left %d", b, got, r.Err(), r.Left())
		}
	}
}

// TestP22_2_NoLists: cut off, with an element that is none, or far too long.
func TestP22_2_NoLists(t *testing.T) {
	for _, b := range [][]byte{nil, {0x80}, {1}, {2, 5}, pack.Put(1, 301), pack.Put(3, 1, 301, 1), pack.Put(math.MaxInt), pack.Put(math.MaxInt, 1, 2), pack.Put(math.MaxInt + 1), pack.Put(math.MaxUint64)} {
		r := pack.New(b)
		if got := rows.Take(r, take); len(got) != 0 || r.Err() == api.OK {
			t.Errorf("Take of %v: %v, error %d", b, got, r.Err())
		}
	}
}
