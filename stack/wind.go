package stack

import (
	"slices"
	"sort"

	"steeplejack/api"
)

const (
	maxPressure = 10_000 // pascals

	// One pascal pushes a square millimetre with this part of a newton.
	perNewton = 1_000_000
	// A moment of this part of a newton millimetre moves the centre of a kilogram, which weighs 981 / 100 newtons, by this part of a millimetre.
	perMillimetre = perNewton / 100 * 981
)

// away is where a wind from each side moves the centre: east and north.
var away = [4][2]int{{-1, 0}, {0, -1}, {1, 0}, {0, 1}}

func validWind(p, side int) bool {
	return between(p, 0, maxPressure) && between(side, 0, len(away)-1)
}

// parts returns by what the numbers of arm are to be divided.
func (b loadedBed) parts() int { return perMillimetre * b.weight }

// arm returns the arm in a wind, in parts of a millimetre.
func (b loadedBed) arm(p, side int) (east, north int) {
	to := away[side]
	east = (b.east-b.weight*b.course.East)*perMillimetre + to[0]*p*b.push
	north = (b.north-b.weight*b.course.North)*perMillimetre + to[1]*p*b.push
	return east, north
}

// closed reports whether no part of the bed is lifted.
func (b loadedBed) closed(p, side int) bool {
	east, north := b.arm(p, side)
	out, in := b.course.Out, b.course.In
	lift := product(uint64(abs(east))+uint64(abs(north)), uint64(3*out)) // the sum takes the 64th bit
	return lift.atMost(product(uint64(out*out+in*in), uint64(b.parts())))
}

func (b loadedBed) holds(p, side int) bool {
	east, north := b.arm(p, side)
	return max(abs(east), abs(north)) <= b.course.Out*b.parts()
}

// bedInWind returns the bed of the course with an index, if the wind is one too.
func bedInWind(l []api.Course, index, p, side int) (loadedBed, api.Errno) {
	b, e := bedAt(l, index)
	if e == api.OK && !validWind(p, side) {
		return loadedBed{}, api.ErrRange
	}
	return b, e
}

// checkWind returns the error of a stack in a wind.
func checkWind(l []api.Course, p, side int) api.Errno {
	switch {
	case !Valid(l):
		return api.ErrInvalid
	case !validWind(p, side):
		return api.ErrRange
	}
	return api.OK
}

// Arm returns the arm of a bed in a wind.
func Arm(l []api.Course, bed, p, side int) (east, north api.Ratio, e api.Errno) {
	b, e := bedInWind(l, bed, p, side)
	if e != api.OK {
		return api.Ratio{}, api.Ratio{}, e
	}
	x, y := b.arm(p, side)
	return ratio(x, b.parts()), ratio(y, b.parts()), api.OK
}

// Moment returns the moment of a wind at a bed.
func Moment(l []api.Course, bed, p int) (api.Ratio, api.Errno) {
	b, e := bedInWind(l, bed, p, 0)
	if e != api.OK {
		return api.Ratio{}, e
	}
	return ratio(p*b.push, perNewton), api.OK
}

// Closed reports whether a bed is closed in a wind.
func Closed(l []api.Course, bed, p, side int) (bool, api.Errno) {
	b, e := bedInWind(l, bed, p, side)
	return e == api.OK && b.closed(p, side), e
}

// Holds reports whether a bed holds in a wind.
func Holds(l []api.Course, bed, p, side int) (bool, api.Errno) {
	b, e := bedInWind(l, bed, p, side)
	return e == api.OK && b.holds(p, side), e
}

// Open returns the beds that are not closed in a wind, in ascending order.
func Open(l []api.Course, p, side int) ([]int, api.Errno) {
	if e := checkWind(l, p, side); e != api.OK {
		return nil, e
	}
	var out []int
	for b := range beds(l) {
		if !b.closed(p, side) {
			out = append(out, b.index)
		}
	}
	slices.Reverse(out)
	return out, api.OK
}

// Stands reports whether a stack stands in a wind.
func Stands(l []api.Course, p, side int) (bool, api.Errno) {
	_, e := Falls(l, p, side)
	if e == api.ErrNone {
		return true, api.OK
	}
	return false, e
}

// Falls returns the topmost bed that does not hold in a wind.
func Falls(l []api.Course, p, side int) (int, api.Errno) {
	if e := checkWind(l, p, side); e != api.OK {
		return 0, e
	}
	for b := range beds(l) {
		if !b.holds(p, side) {
			return b.index, api.OK
		}
	}
	return 0, api.ErrNone
}

// tight reports whether all beds are closed in a wind.
func tight(l []api.Course, p, side int) bool {
	for b := range beds(l) {
		if !b.closed(p, side) {
			return false
		}
	}
	return true
}

// Safe returns the greatest pressure up to which all beds are closed in a wind from a side.
func Safe(l []api.Course, side int) (int, api.Errno) {
	if e := checkWind(l, 0, side); e != api.OK {
		return 0, e
	}
	if !tight(l, 0, side) {
		return 0, api.ErrNone
	}
	// An arm is a convex function of the pressure: a bed that has opened stays open, so the first pressure above the safe one can be searched for.
	return sort.Search(maxPressure, func(p int) bool { return !tight(l, p+1, side) }), api.OK
}

// Least returns the least safe pressure of all sides, and the first side that has it.
func Least(l []api.Course) (p, side int, e api.Errno) {
	p = maxPressure + 1
	for from := range away {
		safe, e := Safe(l, from)
		if e != api.OK {
			return 0, 0, e
		}
		if safe < p {
			p, side = safe, from
		}
	}
	return p, side, api.OK
}
