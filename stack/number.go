package stack

import (
	"math/bits"

	"steeplejack/api"
)

func abs(n int) int { return max(n, -n) }

// ratio returns n / d in lowest terms, for a d above 0.
func ratio(n, d int) api.Ratio {
	g, rest := d, abs(n)
	for rest != 0 {
		g, rest = rest, g%rest
	}
	return api.Ratio{N: n / g, D: d / g}
}

// wide is a number of 128 bits without a sign.
type wide struct{ upper, lower uint64 }

func product(a, b uint64) wide {
	upper, lower := bits.Mul64(a, b)
	return wide{upper, lower}
}

func (a wide) atMost(b wide) bool {
	return a == b || a.upper < b.upper || a.upper == b.upper && a.lower < b.lower
}
