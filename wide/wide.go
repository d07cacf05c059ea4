// Package wide is layer 1: see shared/doc/01-wide.md.
package wide

import (
	"math/bits"

	"ductus/api"
)

// Int is a number of 128 bits: Hi times 2 to the 64, and Lo.
type Int struct {
	Hi int64
	Lo uint64
}

// Of tells n as a wide number.
func Of(n int64) Int {
	return Int{Hi: signWord(n), Lo: uint64(n)}
}

// signWord is the high word of a number whose low word is n: 0, or -1 below 0.
func signWord(n int64) int64 {
	return n >> 63
}

// Mul tells a times b, exactly.
func Mul(a, b int64) Int {
	hi, lo := bits.Mul64(uint64(a), uint64(b))
	// A factor below 0 was taken as 2^64 more than it is: the product is the
	// other factor times 2^64 too great.
	hi -= uint64(signWord(a) & b)
	hi -= uint64(signWord(b) & a)
	return Int{Hi: int64(hi), Lo: lo}
}

// Add tells the sum, modulo 2^128.
func Add(a, b Int) Int {
	lo, carry := bits.Add64(a.Lo, b.Lo, 0)
	hi, _ := bits.Add64(uint64(a.Hi), uint64(b.Hi), carry)
	return Int{Hi: int64(hi), Lo: lo}
}

// Sub tells the difference, modulo 2^128.
func Sub(a, b Int) Int {
	lo, borrow := bits.Sub64(a.Lo, b.Lo, 0)
	hi, _ := bits.Sub64(uint64(a.Hi), uint64(b.Hi), borrow)
	return Int{Hi: int64(hi), Lo: lo}
}

// Cmp tells -1, 0 or 1, as a is below b, is it, or is above it.
func Cmp(a, b Int) int {
	switch {
	case a == b:
		return 0
	case a.Hi < b.Hi, a.Hi == b.Hi && a.Lo < b.Lo:
		return -1
	}
	return 1
}

// Sign tells -1, 0 or 1, as a is below 0, is it, or is above it.
func Sign(a Int) int {
	return Cmp(a, Int{})
}

// Div tells the quotient of a and b, rounded down, and what is left: 0 to b - 1.
func Div(a Int, b int64) (Int, int64, api.Errno) {
	if b <= 0 {
		return Int{}, 0, api.ErrArg
	}
	var q Int
	var left uint64
	switch {
	case a.Hi != 0:
		// Only this step rounds by the sign: what it leaves is never below 0,
		// so the step of the low word is one of numbers without signs.
		q.Hi, left = floor(a.Hi, b)
		fallthrough
	default:
		// What is left is below b: the quotient fits in the low word.
		q.Lo, left = bits.Div64(left, a.Lo, uint64(b))
	}
	return q, int64(left), api.OK
}

// floor divides a by b, which is above 0, rounded down; what is left is 0 to b - 1.
func floor(a, b int64) (int64, uint64) {
	q, left := a/b, a%b
	if left < 0 {
		q, left = q-1, left+b
	}
	return q, uint64(left)
}

// Narrow tells a, and true, if it fits in 64 bits; else 0, and false.
func Narrow(a Int) (int64, bool) {
	n := int64(a.Lo)
	if Of(n) != a {
		return 0, false
	}
	return n, true
}
