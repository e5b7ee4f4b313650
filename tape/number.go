package tape

import (
	"math/bits"

	"steeplejack/api"
)

// ratio returns n / d in lowest terms, for a d above 0.
func ratio(n, d int) api.Ratio {
	g, rest := d, max(n, -n)
	for rest != 0 {
		g, rest = rest, g%rest
	}
	return api.Ratio{N: n / g, D: d / g}
}

// wide is a signed number of 128 bits.
type wide struct {
	upper int64
	lower uint64
}

// times returns n * d, for a d above 0.
func times(n, d int) wide {
	upper, lower := bits.Mul64(uint64(n), uint64(d))
	if n < 0 { // as an unsigned number it was 2^64 more
		upper -= uint64(d)
	}
	return wide{int64(upper), lower}
}

// Compare returns -1, 0 or 1 as a is less than, equal to or greater than b; a D that is not above 0 counts as 1.
func Compare(a, b api.Ratio) int {
	x, y := times(a.N, max(b.D, 1)), times(b.N, max(a.D, 1))
	switch {
	case x == y:
		return 0
	case x.upper < y.upper || x.upper == y.upper && x.lower < y.lower:
		return -1
	}
	return 1
}
