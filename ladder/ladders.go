package ladder

import "steeplejack/api"

const maxOnLadder = 1_000_000_000 // newtons

// on returns the dogs on a ladder that stands on the dog foot, as indexes of the dogs' list.
func (w wall) on(dogs []int, foot int) []int {
	end := w.joints[dogs[foot]].Height + w.Length
	var out []int
	for i := foot; i < len(dogs) && w.joints[dogs[i]].Height <= end; i++ {
		out = append(out, i)
	}
	return out
}

// forLadders returns the route of ladders over right dogs. One that hangs on its foot's dog alone must not be set.
func (w wall) forLadders(dogs []int) route {
	r := route{first: w.First, step: w.Length - w.Lap, last: w.Top - w.Length}
	for i, d := range dogs {
		r.places = append(r.places, place{w.joints[d].Height, len(w.on(dogs, i)) > 1})
	}
	return r
}

// greatest returns the greatest load that each of some right ladders bears.
func (w wall) greatest(dogs, ladders []int) int {
	most := maxOnLadder
	for _, foot := range ladders {
		most = min(most, w.Strength*(len(w.on(dogs, foot))-1)) // one of its dogs may fail
	}
	return most
}

// set reports whether dogs are right, and ladders for them.
func (w wall) set(dogs, ladders []int) bool {
	return w.forDogs().right(dogs) && w.forLadders(dogs).right(ladders)
}

// On returns the dogs on a ladder that stands on the dog foot, as indexes of the dogs' list.
func On(c api.Climb, l []api.Joint, dogs []int, foot int) ([]int, api.Errno) {
	w := wall{c, l}
	switch {
	case !w.valid():
		return nil, api.ErrInvalid
	case !between(foot, 0, len(dogs)-1):
		return nil, api.ErrRange
	case !w.forDogs().right(dogs):
		return nil, api.ErrState
	}
	return w.on(dogs, foot), api.OK
}

// Set reports whether ladders are right for right dogs.
func Set(c api.Climb, l []api.Joint, dogs, ladders []int) bool {
	w := wall{c, l}
	return w.valid() && w.set(dogs, ladders)
}

// Ladders returns the right ladders of which there are fewest, of several lists the first one.
func Ladders(c api.Climb, l []api.Joint, dogs []int) ([]int, api.Errno) {
	w := wall{c, l}
	switch {
	case !w.valid():
		return nil, api.ErrInvalid
	case !w.forDogs().right(dogs):
		return nil, api.ErrState
	}
	ladders := w.forLadders(dogs).fewest()
	if len(ladders) == 0 {
		return nil, api.ErrNone
	}
	return ladders, api.OK
}

// Bears reports whether each of some right ladders bears a load.
func Bears(c api.Climb, l []api.Joint, dogs, ladders []int, load int) (bool, api.Errno) {
	w := wall{c, l}
	switch {
	case !w.valid():
		return false, api.ErrInvalid
	case !between(load, 0, maxOnLadder):
		return false, api.ErrRange
	case !w.set(dogs, ladders):
		return false, api.ErrState
	}
	return load <= w.greatest(dogs, ladders), api.OK
}

// Greatest returns the greatest load that each of some right ladders bears.
func Greatest(c api.Climb, l []api.Joint, dogs, ladders []int) (int, api.Errno) {
	w := wall{c, l}
	switch {
	case !w.valid():
		return 0, api.ErrInvalid
	case !w.set(dogs, ladders):
		return 0, api.ErrState
	}
	return w.greatest(dogs, ladders), api.OK
}
