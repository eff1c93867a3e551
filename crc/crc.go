// Package crc is layer 1: see shared/doc/01-crc.md.
package crc

// polynomial is the divisor with its bits mirrored, since bytes are taken lowest bit first.
const polynomial uint32 = 0xedb88320

// Sum is the check sum of bytes, one list behind the other.
func Sum(l ...[]byte) uint32 {
	var sum uint32
	for _, list := range l {
		for _, b := range list {
			sum = Next(sum, b)
		}
	}
	return sum
}

// Next is the check sum when one more byte stands behind what has that one.
func Next(sum uint32, b byte) uint32 {
	// Sums are kept turned over, so that noughts at the front still count: without it Sum of 00 were Sum of nothing.
	c := ^sum ^ uint32(b)
	for range 8 {
		c = halve(c)
	}
	return ^c
}

// halve takes one bit off, and the divisor with it where that bit was set.
func halve(c uint32) uint32 {
	half := c >> 1
	if c&1 == 1 {
		half ^= polynomial
	}
	return half
}
