package stack

import (
	"iter"
	"slices"

	"steeplejack/api"
)

// loadedBed is a bed with what stands above it. With valid courses all its numbers, and those that its methods make of them, are within 64 bits.
type loadedBed struct {
	index       int
	course      api.Course // the lowest one
	weight      int
	east, north int // the sums of Weight * East, and of Weight * North
	face        int // the sum of Out * Height
	push        int // the sum of Out * Height * twice the height of the course's middle above the bed
}

// onto returns the bed of a course on which all stands that stood above a bed, and that bed.
func (b loadedBed) onto(index int, c api.Course) loadedBed {
	face := c.Out * c.Height
	return loadedBed{
		index:  index,
		course: c,
		weight: b.weight + c.Weight,
		east:   b.east + c.Weight*c.East,
		north:  b.north + c.Weight*c.North,
		face:   b.face + face,
		push:   b.push + b.face*2*c.Height + face*c.Height,
	}
}

// beds yields the beds of a stack, from the top down.
func beds(l []api.Course) iter.Seq[loadedBed] {
	return func(yield func(loadedBed) bool) {
		var b loadedBed
		for i, c := range slices.Backward(l) {
			b = b.onto(i, c)
			if !yield(b) {
				return
			}
		}
	}
}

// bedAt returns the bed of the course with an index.
func bedAt(l []api.Course, index int) (loadedBed, api.Errno) {
	if !Valid(l) {
		return loadedBed{}, api.ErrInvalid
	}
	for b := range beds(l) {
		if b.index == index {
			return b, api.OK
		}
	}
	return loadedBed{}, api.ErrRange
}

// Weight returns the weight above a bed.
func Weight(l []api.Course, bed int) (int, api.Errno) {
	b, e := bedAt(l, bed)
	return b.weight, e
}

// Centre returns the centre of what stands above a bed.
func Centre(l []api.Course, bed int) (east, north api.Ratio, e api.Errno) {
	b, e := bedAt(l, bed)
	if e != api.OK {
		return api.Ratio{}, api.Ratio{}, e
	}
	return ratio(b.east, b.weight), ratio(b.north, b.weight), api.OK
}
