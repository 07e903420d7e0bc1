// Package octet is numbers in bytes: see DOC.md, chapter 1.
package octet

import (
	"iter"
	"math/bits"
)

// Uint is a number's kind.
type Uint interface {
	~uint8 | ~uint16 | ~uint32 | ~uint64
}

// size is how many bytes a T has.
func size[T Uint]() int {
	return bits.Len64(uint64(^T(0))) / 8
}

// fits tells whether b has a T's bytes from at on.
func fits[T Uint](b []byte, at int) bool {
	// at stands alone: at and a size together could be beyond an int.
	return at >= 0 && at <= len(b)-size[T]()
}

// Get reads the number at a place; false, if its bytes are not all there.
func Get[T Uint](b []byte, at int) (T, bool) {
	if !fits[T](b, at) {
		return 0, false
	}
	var v uint64
	for _, c := range b[at : at+size[T]()] {
		v = v<<8 | uint64(c)
	}
	return T(v), true
}

// Put writes the number at a place of b itself; false, and nothing is written, if there is no room.
func Put[T Uint](b []byte, at int, v T) bool {
	if !fits[T](b, at) {
		return false
	}
	rest := uint64(v)
	for i := at + size[T]() - 1; i >= at; i-- {
		b[i] = byte(rest)
		rest >>= 8
	}
	return true
}

// Append is b with the number's bytes behind.
func Append[T Uint](b []byte, v T) []byte {
	// Not the append of the language: that one may write into b's spare room.
	out := make([]byte, len(b)+size[T]())
	copy(out, b)
	Put(out, len(b), v)
	return out
}

// Words goes over b two bytes at a time, each as a number with its place; an odd b has a byte 0 behind.
func Words(b []byte) iter.Seq2[int, uint16] {
	// A copy, for b is not kept: the walk may be run when b is another one already.
	even := make([]byte, len(b)+len(b)%2)
	copy(even, b)
	return func(yield func(int, uint16) bool) {
		for at := 0; at < len(even); at += 2 {
			w, _ := Get[uint16](even, at)
			if !yield(at, w) {
				return
			}
		}
	}
}

// Same is how many bytes from the front on are the same.
func Same(a, b []byte) int {
	most := min(len(a), len(b))
	for i := range most {
		if a[i] != b[i] {
			return i
		}
	}
	return most
}
