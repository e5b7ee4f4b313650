// Package lean tells how far a chimney leans, and where it bends.
package lean

import "steeplejack/api"

// mark is a mark with a method for each of its offsets, so that a caller names the offset it wants.
type mark api.Mark

func (m mark) east() api.Point  { return api.Point{Height: m.Height, X: m.East} }
func (m mark) north() api.Point { return api.Point{Height: m.Height, X: m.North} }

func between(n, lo, hi int) bool { return lo <= n && n <= hi }

func validPoint(p api.Point) bool {
	return between(p.Height, 0, api.MaxHeight) && between(p.X, -api.MaxOffset, api.MaxOffset)
}

func validMark(m api.Mark) bool {
	return validPoint(mark(m).east()) && validPoint(mark(m).north())
}

// follows reports whether a valid survey may begin with the marks before and then m.
func follows(before []api.Mark, m api.Mark) bool {
	n := len(before)
	return n < api.MaxMarks && validMark(m) && (n == 0 || before[n-1].Height < m.Height)
}

// Valid reports whether a survey is valid.
func Valid(l []api.Mark) bool {
	for i, m := range l {
		if !follows(l[:i], m) {
			return false
		}
	}
	return len(l) > 0
}

// ValidPoints reports whether points are valid.
func ValidPoints(l []api.Point) bool {
	if !between(len(l), 1, api.MaxMarks) {
		return false
	}
	for i, p := range l {
		if !validPoint(p) || i > 0 && l[i-1].Height >= p.Height {
			return false
		}
	}
	return true
}

// East returns the points of a survey's offsets to the east.
func East(l []api.Mark) ([]api.Point, api.Errno) { return offsets(l, mark.east) }

// North returns the points of a survey's offsets to the north.
func North(l []api.Mark) ([]api.Point, api.Errno) { return offsets(l, mark.north) }

func offsets(l []api.Mark, of func(mark) api.Point) ([]api.Point, api.Errno) {
	if !Valid(l) {
		return nil, api.ErrInvalid
	}
	out := make([]api.Point, len(l))
	for i, m := range l {
		out[i] = of(mark(m))
	}
	return out, api.OK
}
