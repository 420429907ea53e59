// Package rows: lists as bytes, their length before their elements. Layers 22, 23 and 25 write and read theirs by it.
package rows

import (
	"math"

	"confidant/api"
	"confidant/pack"
)

// Put returns the encoding of the length of l, and behind it that of each element by one.
func Put[T any](l []T, one func(T) []byte) []byte {
	out := pack.Put(uint64(len(l)))
	for _, x := range l {
		out = append(out, one(x)...)
	}
	return out
}

// Take reads a length and then as many elements by one. It stops at the first error of r.
func Take[T any](r *pack.Reader, one func(*pack.Reader) T) []T {
	return Some(r, r.Num(math.MaxInt), one)
}

// Some reads so many elements by one, each of which reads at least a byte. It stops at the first error of r.
func Some[T any](r *pack.Reader, size uint64, one func(*pack.Reader) T) []T {
	var out []T
	for range size {
		x := one(r)
		// The size may be far more than the bytes can hold.
		if r.Err() != api.OK {
			return nil
		}
		out = append(out, x)
	}
	return out
}
