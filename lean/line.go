package lean

import (
	"cmp"

	"steeplejack/api"
)

// The bounds of a line's numbers. All that is reckoned with valid lines and points stays below 10^18.
const (
	maxA = 100_000_000_000_000_000
	maxB = 1_000_000_000_000
	maxD = 1_000_000_000_000
)

func inBounds(x api.Line) bool {
	return between(x.A, -maxA, maxA) && between(x.B, -maxB, maxB) && between(x.D, 1, maxD)
}

// lowest divides a line's numbers by what they have in common.
func lowest(x api.Line) api.Line {
	g := common(common(abs(x.A), abs(x.B)), x.D)
	return api.Line{A: x.A / g, B: x.B / g, D: x.D / g}
}

// ValidLine reports whether a line is valid.
func ValidLine(x api.Line) bool { return inBounds(x) && lowest(x) == x }

// Make returns the line (a + b * h) / d.
func Make(a, b, d int) (api.Line, api.Errno) {
	x := api.Line{A: a, B: b, D: d}
	if !inBounds(x) {
		return api.Line{}, api.ErrRange
	}
	return lowest(x), api.OK
}

// Through returns the line through two points.
func Through(p, q api.Point) (api.Line, api.Errno) {
	if !validPoint(p) || !validPoint(q) {
		return api.Line{}, api.ErrInvalid
	}
	if p.Height == q.Height {
		return api.Line{}, api.ErrState
	}
	if p.Height > q.Height { // D must be above 0
		p, q = q, p
	}
	rise, run := q.X-p.X, q.Height-p.Height
	return Make(p.X*run-p.Height*rise, rise, run)
}

// value returns D times a line's value at a height.
func value(x api.Line, height int) int { return x.A + x.B*height }

// At returns a line's value at a height.
func At(x api.Line, height int) (api.Ratio, api.Errno) {
	if !ValidLine(x) {
		return api.Ratio{}, api.ErrInvalid
	}
	if !between(height, 0, api.MaxHeight) {
		return api.Ratio{}, api.ErrRange
	}
	return ratio(value(x, height), x.D), api.OK
}

// above returns D times what a point's X is more than a line's value.
func above(x api.Line, p api.Point) int { return p.X*x.D - value(x, p.Height) }

// Distance returns a line's distance from a point.
func Distance(x api.Line, p api.Point) (api.Ratio, api.Errno) {
	if !ValidLine(x) || !validPoint(p) {
		return api.Ratio{}, api.ErrInvalid
	}
	return ratio(abs(above(x, p)), x.D), api.OK
}

// Worst returns the index of the point that is farthest from a line, of several the first, and its distance.
func Worst(x api.Line, l []api.Point) (int, api.Ratio, api.Errno) {
	if !ValidLine(x) || !ValidPoints(l) {
		return 0, api.Ratio{}, api.ErrInvalid
	}
	i := farthest(x, l)
	return i, ratio(abs(above(x, l[i])), x.D), api.OK
}

func farthest(x api.Line, l []api.Point) int {
	return greatest(l, func(p, q api.Point) int {
		return cmp.Compare(abs(above(x, p)), abs(above(x, q)))
	})
}

// greatest returns the index of what is greatest in a list, of several the first.
func greatest[T any](l []T, compare func(a, b T) int) int {
	best := 0
	for i := range l {
		if compare(l[i], l[best]) > 0 {
			best = i
		}
	}
	return best
}

// Raised returns the points with a line's value, rounded down, added to each X.
func Raised(l []api.Point, x api.Line) ([]api.Point, api.Errno) {
	if !ValidPoints(l) || !ValidLine(x) {
		return nil, api.ErrInvalid
	}
	out := make([]api.Point, len(l))
	for i, p := range l {
		p.X += down(value(x, p.Height), x.D)
		if !validPoint(p) {
			return nil, api.ErrLimit
		}
		out[i] = p
	}
	return out, api.OK
}
