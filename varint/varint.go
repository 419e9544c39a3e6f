// Package varint is layer 1: it writes numbers and texts as bytes, few for small numbers, and reads them back. See shared/doc/01-varint.md.
package varint

import (
	"iter"
	"strings"
)

// mostBytes is what the longest encoding of a number has: 64 bits, 7 a byte.
const mostBytes = 10

// more is added to each byte of a number that another one follows.
const more = 128

// Num returns the encoding of n.
func Num(n int) string {
	code := make([]byte, 0, mostBytes)
	for b := range numberBytes(n) {
		code = append(code, b)
	}
	return string(code)
}

// Text returns s with its length ahead of it.
func Text(s string) string {
	return Num(len(s)) + s
}

// Reader takes numbers and texts off the beginning of its remaining bytes, till something is none.
type Reader struct {
	rest string
	bad  bool
}

// New returns a Reader of s.
func New(s string) *Reader {
	return &Reader{rest: s}
}

// Num takes the next number off; without one, the Reader fails.
func (r *Reader) Num() int {
	if r.bad {
		return 0
	}
	n := guess(r.rest)
	// A number has just one encoding: bytes that lack an end, are too many, or have superfluous zero digits differ from it.
	rest, ok := strings.CutPrefix(r.rest, Num(n))
	if !ok {
		r.bad = true
		return 0
	}
	r.rest = rest
	return n
}

// Text takes the next text off, which may have at most so many bytes; without one, the Reader fails.
func (r *Reader) Text(most int) string {
	long := r.Num()
	if r.bad || long < 0 || long > most || long > len(r.rest) {
		r.bad = true
		return ""
	}
	text := strings.Clone(r.rest[:long])
	r.rest = r.rest[long:]
	return text
}

// Left returns how many bytes remain.
func (r *Reader) Left() int {
	return len(r.rest)
}

// Bad reports whether the Reader has failed.
func (r *Reader) Bad() bool {
	return r.bad
}

// Ends reports whether everything was read, and nothing failed.
func (r *Reader) Ends() bool {
	return !r.bad && len(r.rest) == 0
}

// numberBytes visits the bytes of n's encoding.
func numberBytes(n int) iter.Seq[byte] {
	return func(yield func(byte) bool) {
		z := zigzag(n)
		for z >= more {
			if !yield(byte(z%more) + more) {
				return
			}
			z /= more
		}
		yield(byte(z))
	}
}

// leadingBytes visits the bytes at the beginning of s that would be those of one number, with their places.
func leadingBytes(s string) iter.Seq2[int, byte] {
	return func(yield func(int, byte) bool) {
		for i := range min(len(s), mostBytes) {
			if !yield(i, s[i]) || s[i] < more {
				return
			}
		}
	}
}

// guess returns the number whose encoding s begins with; if there is none, it returns any number.
func guess(s string) int {
	var z uint64
	for i, b := range leadingBytes(s) {
		z |= uint64(b%more) << (7 * i)
	}
	return unzigzag(z)
}

// zigzag returns n's zigzag value; the complement of 2 n is -2 n - 1, and that doesn't overflow.
func zigzag(n int) uint64 {
	double := uint64(n) << 1
	if n < 0 {
		return ^double
	}
	return double
}

// unzigzag returns the number whose zigzag value is z.
func unzigzag(z uint64) int {
	half := int(z >> 1)
	if z%2 == 1 {
		return ^half
	}
	return half
}
