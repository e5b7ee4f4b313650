package fell

import (
	"cmp"
	"slices"

	"steeplejack/api"
)

// from returns the way from one spot to another.
func from(a, b api.Spot) api.Spot { return api.Spot{X: b.X - a.X, Y: b.Y - a.Y} }

func dot(v, w api.Spot) int { return v.X*w.X + v.Y*w.Y }

// cross is above 0 if w leads to the left of v.
func cross(v, w api.Spot) int { return v.X*w.Y - v.Y*w.X }

func abs(n int) int { return max(n, -n) }

// lowest returns the shortest way of whole numbers in the direction of v, which is not 0 0.
func lowest(v api.Spot) api.Spot {
	g, rest := abs(v.X), abs(v.Y)
	for rest != 0 {
		g, rest = rest, g%rest
	}
	return api.Spot{X: v.X / g, Y: v.Y / g}
}

// byRow compares spots by their Y, then by their X.
func byRow(a, b api.Spot) int { return cmp.Or(cmp.Compare(a.Y, b.Y), cmp.Compare(a.X, b.X)) }

// hull returns the corners of the hull of spots, counterclockwise, the least by row first; it sorts the spots.
func hull(spots []api.Spot) []api.Spot {
	if len(spots) == 0 {
		return nil
	}
	slices.SortFunc(spots, byRow)
	corners := []api.Spot{spots[0]}
	base := 0 // the corners up to this one stay
	push := func(s api.Spot) {
		top := len(corners) - 1
		for top > base && cross(from(corners[top-1], corners[top]), from(corners[top], s)) <= 0 {
			top--
		}
		corners = append(corners[:top+1], s)
	}
	for _, s := range spots[1:] { // up the right side
		push(s)
	}
	base = len(corners) - 1
	for _, s := range slices.Backward(spots[:len(spots)-1]) { // down the left side
		push(s)
	}
	return corners[:max(1, len(corners)-1)] // it has come back to the first corner
}

// beyond returns the direction from the nearest spot of a hull with some corners to s; it is 0 0 if s is in the hull.
func beyond(corners []api.Spot, s api.Spot) api.Spot {
	n := len(corners)
	for i, c := range corners {
		to := from(c, s)
		side, before := from(c, corners[(i+1)%n]), from(c, corners[(i+n-1)%n])
		if to != (api.Spot{}) && dot(to, side) <= 0 && dot(to, before) <= 0 {
			return lowest(to)
		}
		if cross(side, to) < 0 && between(dot(side, to), 0, dot(side, side)) {
			return lowest(api.Spot{X: side.Y, Y: -side.X})
		}
	}
	return api.Spot{}
}
