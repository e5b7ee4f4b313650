package fell

import (
	"slices"

	"steeplejack/api"
)

const (
	maxDeeds = 100
	maxPlan  = 12 // props of a foot for which felling is planned
)

func validDeeds(l []api.Prop, deeds []int) bool {
	if len(deeds) > maxDeeds {
		return false
	}
	for _, d := range deeds {
		if !between(d, 0, 2*len(l)-1) {
			return false
		}
	}
	return true
}

// do does valid deeds, the first of them with n props there, until one cannot be done, or goOn forbids to go on from one with the props that are there then. It returns the props that are there at the end, and how many deeds are done.
func do(n int, deeds []int, goOn func(there set) bool) (there set, done int) {
	there = whole(n)
each:
	for _, d := range deeds {
		prop := one(d / 2)
		taken := there&prop == 0
		switch {
		case done > 0 && !goOn(there):
			break each
		case d%2 == 0 && !taken:
			there &^= prop
		case d%2 == 1 && taken:
			there |= prop
		default:
			break each
		}
		done++
	}
	return there, done
}

// After returns the indexes of the props that are there after deeds.
func After(l []api.Prop, deeds []int) ([]int, api.Errno) {
	switch {
	case !Valid(l):
		return nil, api.ErrInvalid
	case !validDeeds(l, deeds):
		return nil, api.ErrRange
	}
	there, done := do(len(l), deeds, func(set) bool { return true })
	if done < len(deeds) {
		return nil, api.ErrState
	}
	return slices.Collect(there.props()), api.OK
}

// right reports whether deeds are right, and which props are there after them.
func right(f foot, deeds []int) (there set, ok bool) {
	if check(f.props, f.weight) != api.OK || !validDeeds(f.props, deeds) {
		return 0, false
	}
	there, done := do(len(f.props), deeds, f.stands)
	return there, done == len(deeds)
}

// Right reports whether deeds are right.
func Right(l []api.Prop, weight api.Spot, deeds []int) bool {
	_, ok := right(foot{l, weight}, deeds)
	return ok
}

// Fells reports whether deeds fell a stack.
func Fells(l []api.Prop, weight api.Spot, deeds []int) bool {
	f := foot{l, weight}
	there, ok := right(f, deeds)
	return ok && len(deeds) > 0 && !f.stands(there)
}

// Needed returns the indexes of the props without any one of which a stack would not stand.
func Needed(l []api.Prop, weight api.Spot) ([]int, api.Errno) {
	stands, e := Stands(l, weight)
	switch {
	case e != api.OK:
		return nil, e
	case !stands:
		return nil, api.ErrState
	}
	var needed []int
	f, all := foot{l, weight}, whole(len(l))
	for i := range all.props() {
		if !f.stands(all &^ one(i)) {
			needed = append(needed, i)
		}
	}
	return needed, api.OK
}

// Plan returns the first of the shortest lists of deeds that take props away, and fell a stack towards a spot.
func Plan(l []api.Prop, weight, to api.Spot) ([]int, api.Errno) {
	if e := check(l, weight, to); e != api.OK {
		return nil, e
	}
	f := foot{l, weight}
	switch {
	case !f.stands(whole(len(l))):
		return nil, api.ErrState
	case len(l) > maxPlan:
		return nil, api.ErrLimit
	}
	props := f.cut(to)
	if props == nil {
		return nil, api.ErrNone
	}
	for i := range props {
		props[i] *= 2
	}
	return props, api.OK
}

// cut returns the first of the shortest lists of props that can be taken away in its order so that the stack falls towards a spot with the last one; it is nil if there is none.
func (f foot) cut(to api.Spot) []int {
	all := whole(len(f.props))
	for n := range len(f.props) {
		// With more props a stack stands all the more: a set without which it stands can be taken away in any order, also in the first one.
		for taken := range all.subsets(n) {
			there := all &^ taken
			if !f.stands(there) {
				continue
			}
			for last := range there.props() {
				if dot(f.fall(there&^one(last)), from(f.weight, to)) > 0 {
					return append(slices.Collect(taken.props()), last)
				}
			}
		}
	}
	return nil
}
