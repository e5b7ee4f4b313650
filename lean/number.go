package lean

import (
	"cmp"
	"math/bits"

	"steeplejack/api"
)

func abs(n int) int {
	if n < 0 {
		return -n
	}
	return n
}

// common returns the greatest common divisor of two numbers that are not below 0.
func common(a, b int) int {
	for b != 0 {
		a, b = b, a%b
	}
	return a
}

// ratio returns n / d in lowest terms, for a d above 0.
func ratio(n, d int) api.Ratio {
	g := common(abs(n), d)
	return api.Ratio{N: n / g, D: d / g}
}

// down returns n / d rounded down, for a d above 0.
func down(n, d int) int {
	q := n / d
	if n%d < 0 {
		q--
	}
	return q
}

// times returns n * d as a signed number of 128 bits, its upper and its lower half, for a d above 0.
func times(n, d int) (upper int64, lower uint64) {
	hi, lo := bits.Mul64(uint64(n), uint64(d))
	if n < 0 { // as an unsigned number it was 2^64 more
		hi -= uint64(d)
	}
	return int64(hi), lo
}

// Compare returns -1, 0 or 1 as a is less than, equal to or greater than b; a D that is not above 0 counts as 1.
func Compare(a, b api.Ratio) int {
	aUpper, aLower := times(a.N, max(b.D, 1))
	bUpper, bLower := times(b.N, max(a.D, 1))
	return cmp.Or(cmp.Compare(aUpper, bUpper), cmp.Compare(aLower, bLower))
}
