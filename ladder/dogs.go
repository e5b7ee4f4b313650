package ladder

import (
	"slices"

	"steeplejack/api"
)

// forDogs returns the route of dogs over the joints.
func (w wall) forDogs() route {
	r := route{first: w.First, step: w.Gap, last: w.Top - w.Gap}
	for _, j := range w.joints {
		r.places = append(r.places, place{j.Height, j.Sound})
	}
	return r
}

// Right reports whether dogs are right for a climb.
func Right(c api.Climb, l []api.Joint, dogs []int) bool {
	w := wall{c, l}
	return w.valid() && w.forDogs().right(dogs)
}

// Fewest returns the right dogs of which there are fewest, of several lists the first one.
func Fewest(c api.Climb, l []api.Joint) ([]int, api.Errno) {
	w := wall{c, l}
	if !w.valid() {
		return nil, api.ErrInvalid
	}
	dogs := w.forDogs().fewest()
	if len(dogs) == 0 {
		return nil, api.ErrNone
	}
	return dogs, api.OK
}

// Needed returns the sound joints that stand in all right lists of dogs.
func Needed(c api.Climb, l []api.Joint) ([]int, api.Errno) {
	w := wall{c, l}
	if !w.valid() {
		return nil, api.ErrInvalid
	}
	r := w.forDogs()
	if !r.passable() {
		return nil, api.ErrNone
	}
	var out []int
	for i := range r.places {
		if !r.passableWithout(i) {
			out = append(out, i)
		}
	}
	return out, api.OK
}

func (r route) passableWithout(i int) bool {
	r.places = slices.Clone(r.places)
	r.places[i].usable = false
	return r.passable()
}

// Reach returns the greatest height of a dog to which one can come, 0 if there is no first dog.
func Reach(c api.Climb, l []api.Joint) (int, api.Errno) {
	w := wall{c, l}
	if !w.valid() {
		return 0, api.ErrInvalid
	}
	return w.forDogs().highest(), api.OK
}

// Stuck returns, if there are no right dogs, the greatest height of a dog to which one can come.
func Stuck(c api.Climb, l []api.Joint) (int, api.Errno) {
	w := wall{c, l}
	if !w.valid() {
		return 0, api.ErrInvalid
	}
	r := w.forDogs()
	if r.passable() {
		return 0, api.ErrNone
	}
	return r.highest(), api.OK
}

// Proves reports whether a height proves that there are no right dogs.
func Proves(c api.Climb, l []api.Joint, height int) bool {
	w := wall{c, l}
	if !w.valid() || !between(height, 0, api.MaxHeight) {
		return false
	}
	next := w.First // how high the next dog could be
	if height > 0 {
		next = max(next, height+w.Gap)
		if height+w.Gap >= w.Top {
			return false
		}
	}
	for _, j := range l {
		if j.Sound && between(j.Height, height+1, next) {
			return false
		}
	}
	return true
}

// Spare returns the dogs, as indexes of their list, without any one of which the others are still right.
func Spare(c api.Climb, l []api.Joint, dogs []int) ([]int, api.Errno) {
	w := wall{c, l}
	if !w.valid() {
		return nil, api.ErrInvalid
	}
	r := w.forDogs()
	if !r.right(dogs) {
		return nil, api.ErrState
	}
	var out []int
	for i := range dogs {
		if r.right(slices.Concat(dogs[:i], dogs[i+1:])) {
			out = append(out, i)
		}
	}
	return out, api.OK
}
