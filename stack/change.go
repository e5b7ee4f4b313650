package stack

import (
	"slices"

	"steeplejack/api"
)

const maxShift = 10_000 // millimetres, either way

// Added returns a stack with a course more on top.
func Added(l []api.Course, c api.Course) ([]api.Course, api.Errno) {
	switch {
	case !Valid(l) || !validCourse(c):
		return nil, api.ErrInvalid
	case len(l) == api.MaxCourses:
		return nil, api.ErrLimit
	}
	return slices.Concat(l, []api.Course{c}), api.OK
}

// Cut returns the first n courses of a stack.
func Cut(l []api.Course, n int) ([]api.Course, api.Errno) {
	switch {
	case !Valid(l):
		return nil, api.ErrInvalid
	case !between(n, 1, len(l)):
		return nil, api.ErrRange
	}
	return slices.Clone(l[:n]), api.OK
}

// Split returns a stack with a course divided at a height within it.
func Split(l []api.Course, course, at int) ([]api.Course, api.Errno) {
	switch {
	case !Valid(l):
		return nil, api.ErrInvalid
	case !between(course, 0, len(l)-1) || !between(at, 1, l[course].Height-1):
		return nil, api.ErrRange
	}
	lower, upper := l[course], l[course]
	lower.Height, lower.Weight = at, lower.Weight*at/lower.Height
	upper.Height, upper.Weight = upper.Height-at, upper.Weight-lower.Weight
	switch {
	case lower.Weight == 0: // the upper part has always some: the lower one's is rounded down
		return nil, api.ErrState
	case len(l) == api.MaxCourses:
		return nil, api.ErrLimit
	}
	return slices.Concat(l[:course], []api.Course{lower, upper}, l[course+1:]), api.OK
}

// Turned returns a stack turned by quarters from east to north.
func Turned(l []api.Course, quarters int) ([]api.Course, api.Errno) {
	if !Valid(l) {
		return nil, api.ErrInvalid
	}
	out := slices.Clone(l)
	for range (quarters%4 + 4) % 4 {
		for i, c := range out {
			out[i].East, out[i].North = -c.North, c.East
		}
	}
	return out, api.OK
}

// Shifted returns a stack with all middles moved.
func Shifted(l []api.Course, east, north int) ([]api.Course, api.Errno) {
	switch {
	case !Valid(l):
		return nil, api.ErrInvalid
	case !between(east, -maxShift, maxShift) || !between(north, -maxShift, maxShift):
		return nil, api.ErrRange
	}
	out := slices.Clone(l)
	for i := range out {
		out[i].East += east
		out[i].North += north
		if !validMiddle(out[i]) {
			return nil, api.ErrLimit
		}
	}
	return out, api.OK
}
