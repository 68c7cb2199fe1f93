// Package word is layer 1: references, which are small integers or names of objects, and their encodings.
package word

import (
	"webster/api"
)

const (
	size = 4 // bytes of a word

	maxID = 1<<30 - 1 // objects above it would have references of more than 31 bits

	// A narrow word has 16 bits: those of a number in two's complement, and the mark.
	narrowSpan = 1 << 15
	maxNarrow  = narrowSpan/2 - 1
	minNarrow  = -narrowSpan / 2
	maxWord    = 2*narrowSpan - 1
)

// Small returns the reference that represents the number n.
func Small(n int) (int, api.Errno) {
	if n < api.MinSmall || n > api.MaxSmall {
		return 0, api.ErrArg
	}
	return reference(n), api.OK
}

// Number returns the number that the reference o represents, if it represents one.
func Number(o int) (int, bool) {
	// The shift rounds down, so it takes the mark off negative references as well.
	n := o >> 1
	if !odd(o) || n < api.MinSmall || n > api.MaxSmall {
		return 0, false
	}
	return n, true
}

// Named returns the number of the object that the reference o names, if it names one.
func Named(o int) (int, bool) {
	id := o / 2
	if odd(o) || id < 1 || id > maxID {
		return 0, false
	}
	return id, true
}

// Oop returns the reference that names the object with the number id, or 0 if no reference does.
func Oop(id int) int {
	if id < 1 || id > maxID {
		return 0
	}
	return 2 * id
}

// Put returns the low-order 32 bits of o, the most significant byte first.
func Put(o int) []byte {
	return write(make([]byte, 0, size), o)
}

// Get returns the word whose Put stands in b from the offset at on.
func Get(b []byte, at int) (int, api.Errno) {
	// at is held against a difference: a sum could wrap round.
	if at < 0 || at > len(b)-size {
		return 0, api.ErrArg
	}
	var bits uint32
	for i := range size {
		bits = bits<<8 | uint32(b[at+i])
	}
	return int(int32(bits)), api.OK
}

// All returns Put of each number of l, concatenated.
func All(l ...int) []byte {
	b := make([]byte, 0, size*len(l))
	for _, o := range l {
		b = write(b, o)
	}
	return b
}

// Narrow returns the narrow word of the small integer that the reference o represents, if it has one.
func Narrow(o int) (int, bool) {
	n, ok := Number(o)
	if !ok || n < minNarrow || n > maxNarrow {
		return 0, false
	}
	return reference(n & (narrowSpan - 1)), true
}

// Wide returns the reference whose Narrow is w, if there is one.
func Wide(w int) (int, bool) {
	if !odd(w) || w < 0 || w > maxWord {
		return 0, false
	}
	n := w >> 1
	if n > maxNarrow {
		n -= narrowSpan
	}
	return reference(n), true
}

// reference marks a number as one.
func reference(n int) int { return 2*n + 1 }

// odd reports whether o carries the mark of a number; a remainder would be -1 for negative ones.
func odd(o int) bool { return o&1 == 1 }

// write appends the bytes of the word o to b.
func write(b []byte, o int) []byte {
	for i := range size {
		b = append(b, byte(o>>(8*(size-1-i))))
	}
	return b
}
