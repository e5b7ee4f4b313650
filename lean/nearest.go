package lean

import (
	"iter"
	"slices"

	"steeplejack/api"
)

// triples yields all three indexes i < j < k below n, compared by i, then j, then k.
func triples(n int) iter.Seq[[3]int] {
	return func(yield func([3]int) bool) {
		for i := range n {
			for j := i + 1; j < n; j++ {
				for k := j + 1; k < n; k++ {
					if !yield([3]int{i, j, k}) {
						return
					}
				}
			}
		}
	}
}

// Nearest returns the line whose greatest distance from points is least.
func Nearest(l []api.Point) (api.Line, api.Errno) {
	if !ValidPoints(l) {
		return api.Line{}, api.ErrInvalid
	}
	switch len(l) {
	case 1:
		return Make(l[0].X, 0, 1)
	case 2:
		return Through(l[0], l[1])
	}
	// No line is nearer to all points than to those three that bend most, and the nearest one to these is as near to all.
	all := slices.Collect(triples(len(l)))
	at := all[greatest(all, func(a, b [3]int) int { return Compare(bow(l, a), bow(l, b)) })]
	return nearestOfThree(l[at[0]], l[at[1]], l[at[2]])
}

// bulge returns how far q is above the line through p and r, times the height from p to r.
func bulge(p, q, r api.Point) int {
	return (q.X-p.X)*(r.Height-p.Height) - (r.X-p.X)*(q.Height-p.Height)
}

// bow returns how far the middle one of three points is from the line through the outer two; it is twice their bend, and need not be in lowest terms.
func bow(l []api.Point, at [3]int) api.Ratio {
	p, q, r := l[at[0]], l[at[1]], l[at[2]]
	return api.Ratio{N: abs(bulge(p, q, r)), D: r.Height - p.Height}
}

// nearestOfThree returns the line half way between the middle point and the line through the outer two, parallel to it.
func nearestOfThree(p, q, r api.Point) (api.Line, api.Errno) {
	rise, run := r.X-p.X, r.Height-p.Height
	return Make(2*(p.X*run-p.Height*rise)+bulge(p, q, r), 2*rise, 2*run)
}

// Bend returns the greatest distance of the nearest line from points.
func Bend(l []api.Point) (api.Ratio, api.Errno) {
	x, e := Nearest(l)
	if e != api.OK {
		return api.Ratio{}, e
	}
	_, d, e := Worst(x, l)
	return d, e
}

// Proof returns the first proof that the nearest line to points is nearest.
func Proof(l []api.Point) ([3]int, api.Errno) {
	x, e := Nearest(l)
	if e != api.OK {
		return [3]int{}, e
	}
	most := abs(above(x, l[farthest(x, l)]))
	for at := range triples(len(l)) {
		if proves(x, l, at, most) {
			return at, api.OK
		}
	}
	return [3]int{}, api.ErrNone
}

// Proves reports whether three indexes are a proof that a line is the nearest one to points.
func Proves(x api.Line, l []api.Point, at [3]int) bool {
	if !ValidLine(x) || !ValidPoints(l) {
		return false
	}
	if at[0] < 0 || at[0] >= at[1] || at[1] >= at[2] || at[2] >= len(l) {
		return false
	}
	return proves(x, l, at, abs(above(x, l[farthest(x, l)])))
}

// proves reports whether a line that is at most most / D from all points is so far from the middle one of three on one side, and from the outer two on the other.
func proves(x api.Line, l []api.Point, at [3]int, most int) bool {
	outer, middle := above(x, l[at[0]]), above(x, l[at[1]])
	return abs(outer) == most && middle == -outer && above(x, l[at[2]]) == outer
}
