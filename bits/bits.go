// Package bits is layer 1: arithmetic on words of 1 to 64 bits. See shared/doc/01-bits.md.
package bits

import (
	mathbits "math/bits"

	"jacquard/api"
)

// Mask returns the word of w ones. All other functions get their treatment of widths below 0 and above 64 from it.
func Mask(w int) uint64 {
	if w <= 0 {
		return 0
	}
	if w >= api.MaxWidth {
		return ^uint64(0)
	}
	return uint64(1)<<w - 1
}

// Fit returns the low w bits of x.
func Fit(w int, x uint64) uint64 { return x & Mask(w) }

// Signed returns the signed value of the word of the low w bits of x.
func Signed(w int, x uint64) int64 {
	x = Fit(w, x)
	if x <= Mask(w)>>1 {
		return int64(x)
	}
	// Ones above the word subtract 2^w, for words of 64 bits as well, where 2^w itself is no uint64.
	return int64(x | ^Mask(w))
}

// From returns the word of w bits that is n modulo 2^w.
func From(w int, n int64) uint64 { return Fit(w, uint64(n)) }

// Extend returns the word of to bits that has the value of a word of from bits, modulo 2^to: its signed value if signed is true.
func Extend(from, to int, x uint64, signed bool) uint64 {
	if signed {
		return From(to, Signed(from, x))
	}
	return Fit(to, Fit(from, x))
}

// Length returns the number of bits of x without leading zeros.
func Length(x uint64) int { return mathbits.Len64(x) }
