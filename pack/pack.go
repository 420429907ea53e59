// Package pack: Numbers as bytes: see doc/01-pack.md.
package pack

import (
	"bytes"
	"math"
	"math/bits"

	"confidant/api"
)

const (
	groupBits = 7
	groupMask = 1<<groupBits - 1
	moreFlag  = 1 << groupBits // set in every byte but the last one
)

// Put returns the encodings of the numbers, in order.
func Put(l ...uint64) []byte {
	var out []byte
	for _, n := range l {
		out = appendNum(out, n)
	}
	return out
}

// Lump returns the encoding of the length of b, followed by b.
func Lump(b []byte) []byte {
	return append(Put(uint64(len(b))), b...)
}

func appendNum(out []byte, n uint64) []byte {
	for shift := topShift(n); shift > 0; shift -= groupBits {
		out = append(out, moreFlag|byte(n>>shift))
	}
	return append(out, groupMask&byte(n))
}

// topShift returns where the most significant group of n that is needed begins.
func topShift(n uint64) int {
	length := max(bits.Len64(n), 1) // 0 has no bits, but takes a byte
	return (length - 1) / groupBits * groupBits
}

// Reader reads encoded values in order, up to the first error.
type Reader struct {
	rest []byte // nothing after an error
	err  api.Errno
}

// New returns a Reader for b.
func New(b []byte) *Reader {
	// The caller may change b later: the Reader must not see that.
	return &Reader{rest: bytes.Clone(b)}
}

// Num reads a number that is at most most.
func (r *Reader) Num(most uint64) uint64 {
	if r.err != api.OK {
		return 0
	}
	n, size, err := takeNum(r.rest)
	if err == api.OK && n > most {
		err = api.ErrLong
	}
	if err != api.OK {
		r.fail(err)
		return 0
	}
	r.rest = r.rest[size:]
	return n
}

// Lump reads a byte string of at most most bytes, with its length before it.
func (r *Reader) Lump(most int) []byte {
	size := r.Num(uint64(max(most, 0)))
	if r.err != api.OK {
		return nil
	}
	if size > uint64(len(r.rest)) {
		r.fail(api.ErrShort)
		return nil
	}
	b := bytes.Clone(r.rest[:size])
	r.rest = r.rest[size:]
	return b
}

// Left returns how many bytes are left.
func (r *Reader) Left() int {
	return len(r.rest)
}

// Err returns the error of the call that failed first.
func (r *Reader) Err() api.Errno {
	return r.err
}

func (r *Reader) fail(err api.Errno) {
	r.rest, r.err = nil, err
}

// takeNum returns the number at the beginning of b, and the size of its encoding.
func takeNum(b []byte) (n uint64, size int, err api.Errno) {
	for i, c := range b {
		if i == 0 && c == moreFlag || n > math.MaxUint64>>groupBits {
			return 0, 0, api.ErrBytes
		}
		n = n<<groupBits | uint64(c&groupMask)
		if c < moreFlag {
			return n, i + 1, api.OK
		}
	}
	return 0, 0, api.ErrShort
}
