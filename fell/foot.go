package fell

import "steeplejack/api"

// foot is props with the spot of the weight above them.
type foot struct {
	props  []api.Prop
	weight api.Spot
}

// hull returns the corners of the hull of those props that are there.
func (f foot) hull(there set) []api.Spot {
	var spots []api.Spot
	for i := range there.props() {
		spots = append(spots, f.props[i].At)
	}
	return hull(spots)
}

// fall returns the direction in which the stack falls; it is 0 0 if it stands, or no prop is there.
func (f foot) fall(there set) api.Spot { return beyond(f.hull(there), f.weight) }

func (f foot) stands(there set) bool { return there != 0 && f.fall(there) == api.Spot{} }

// Hull returns the corners of the hull of the props' spots.
func Hull(l []api.Prop) ([]api.Spot, api.Errno) {
	if e := check(l); e != api.OK {
		return nil, e
	}
	return foot{props: l}.hull(whole(len(l))), api.OK
}

// Stands reports whether a stack stands.
func Stands(l []api.Prop, weight api.Spot) (bool, api.Errno) {
	if e := check(l, weight); e != api.OK {
		return false, e
	}
	return foot{l, weight}.stands(whole(len(l))), api.OK
}

// Direction returns the direction in which a stack falls.
func Direction(l []api.Prop, weight api.Spot) (api.Spot, api.Errno) {
	stands, e := Stands(l, weight)
	switch {
	case e != api.OK:
		return api.Spot{}, e
	case stands:
		return api.Spot{}, api.ErrState
	case len(l) == 0:
		return api.Spot{}, api.ErrNone
	}
	return foot{l, weight}.fall(whole(len(l))), api.OK
}

// Towards reports whether a stack falls towards a spot.
func Towards(l []api.Prop, weight, to api.Spot) (bool, api.Errno) {
	if e := check(l, weight, to); e != api.OK {
		return false, e
	}
	d, e := Direction(l, weight)
	return dot(d, from(weight, to)) > 0, e
}
