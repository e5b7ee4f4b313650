package rope

import (
	"iter"

	"steeplejack/api"
)

const (
	hundredths = 100

	// A newton is divided so finely that, if the hand pulls with one, each of MaxParts parts bears a whole number of such fractions.
	perNewton = hundredths * hundredths * hundredths * hundredths * hundredths
)

// ValidTackle reports whether a tackle is valid.
func ValidTackle(t api.Tackle) bool {
	return between(t.Parts, 1, api.MaxParts) && validKeep(t.Keep)
}

func validKeep(keep int) bool { return between(keep, 1, hundredths) }

// tensions yields what each part of a valid tackle bears if the hand pulls with one newton, times perNewton.
func tensions(t api.Tackle) iter.Seq[int] {
	return func(yield func(int) bool) {
		tension := perNewton
		for range t.Parts {
			if !yield(tension) {
				return
			}
			tension = tension * t.Keep / hundredths
		}
	}
}

// gain returns what a valid tackle lifts by one newton, times perNewton.
func gain(t api.Tackle) int {
	sum := 0
	for tension := range tensions(t) {
		sum += tension
	}
	return sum
}

// leastPull returns the least pull by which a valid tackle lifts a load.
func leastPull(t api.Tackle, load int) int { return up(load*perNewton, gain(t)) }

// Gain returns what a tackle lifts by one newton.
func Gain(t api.Tackle) (api.Ratio, api.Errno) { return Lifted(t, 1) }

// Lifted returns what a tackle lifts by a pull.
func Lifted(t api.Tackle, pull int) (api.Ratio, api.Errno) {
	switch {
	case !ValidTackle(t):
		return api.Ratio{}, api.ErrInvalid
	case !validLoad(pull):
		return api.Ratio{}, api.ErrRange
	}
	return ratio(pull*gain(t), perNewton), api.OK
}

// Pull returns the least pull by which a tackle lifts a load.
func Pull(t api.Tackle, load int) (int, api.Errno) {
	switch {
	case !ValidTackle(t):
		return 0, api.ErrInvalid
	case !validLoad(load):
		return 0, api.ErrRange
	}
	return leastPull(t, load), api.OK
}

// Parts returns the least number of parts with which a tackle lifts a load by a pull of at most most.
func Parts(keep, load, most int) (int, api.Errno) {
	if !validKeep(keep) || !validLoad(load) || !validLoad(most) {
		return 0, api.ErrRange
	}
	for parts := 1; parts <= api.MaxParts; parts++ {
		if leastPull(api.Tackle{Parts: parts, Keep: keep}, load) <= most {
			return parts, api.OK
		}
	}
	return 0, api.ErrNone
}

// Hauled returns how much rope is hauled to lift by a height.
func Hauled(t api.Tackle, height int) (int, api.Errno) {
	switch {
	case !ValidTackle(t):
		return 0, api.ErrInvalid
	case !between(height, 0, api.MaxHeight):
		return 0, api.ErrRange
	}
	return t.Parts * height, api.OK
}
