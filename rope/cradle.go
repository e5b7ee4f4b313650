package rope

import (
	"slices"
	"sort"

	"steeplejack/api"
)

const (
	maxSpan  = 100_000 // millimetres
	maxLoads = 20
)

// ValidLoads reports whether a span and the loads of its cradle are valid.
func ValidLoads(span int, l []api.Load) bool {
	if !between(span, 1, maxSpan) || len(l) > maxLoads {
		return false
	}
	for _, x := range l {
		if !between(x.At, 0, span) || !validLoad(x.Weight) {
			return false
		}
	}
	return true
}

// shares returns what the two ropes bear, times the span.
func shares(span int, loads ...api.Load) (first, second int) {
	for _, x := range loads {
		first += x.Weight * (span - x.At)
		second += x.Weight * x.At
	}
	return first, second
}

// withMan returns a function that tells what the two ropes bear, times the span, if a man stands at a place beside the loads.
func withMan(span int, l []api.Load, weight int) func(at int) (first, second int) {
	return func(at int) (first, second int) {
		return shares(span, slices.Concat(l, []api.Load{{At: at, Weight: weight}})...)
	}
}

// Shares returns what the two ropes bear.
func Shares(span int, l []api.Load) (first, second api.Ratio, e api.Errno) {
	if !ValidLoads(span, l) {
		return api.Ratio{}, api.Ratio{}, api.ErrInvalid
	}
	a, b := shares(span, l...)
	return ratio(a, span), ratio(b, span), api.OK
}

// Walk returns the least and the greatest place at which a man may stand so that neither rope bears more than a limit.
func Walk(span int, l []api.Load, weight, limit int) (lo, hi int, e api.Errno) {
	switch {
	case !ValidLoads(span, l):
		return 0, 0, api.ErrInvalid
	case !validLoad(weight) || !validLoad(limit):
		return 0, 0, api.ErrRange
	}
	borne := withMan(span, l, weight)
	// From place to place the first rope bears less and the second one more.
	lo = sort.Search(span+1, func(at int) bool {
		first, _ := borne(at)
		return first <= limit*span
	})
	tooFar := sort.Search(span+1, func(at int) bool {
		_, second := borne(at)
		return second > limit*span
	})
	if lo >= tooFar {
		return 0, 0, api.ErrNone
	}
	return lo, tooFar - 1, api.OK
}

// Middle returns the place at which one load of all the weights would have the same shares.
func Middle(span int, l []api.Load) (api.Ratio, api.Errno) {
	if !ValidLoads(span, l) {
		return api.Ratio{}, api.ErrInvalid
	}
	first, second := shares(span, l...)
	weight := (first + second) / span
	if weight == 0 {
		return api.Ratio{}, api.ErrNone
	}
	return ratio(second, weight), api.OK
}

// Level returns the least place at which a man makes the two shares differ least.
func Level(span int, l []api.Load, weight int) (int, api.Errno) {
	switch {
	case !ValidLoads(span, l):
		return 0, api.ErrInvalid
	case !validLoad(weight) || weight == 0:
		return 0, api.ErrRange
	}
	borne := withMan(span, l, weight)
	difference := func(at int) int {
		first, second := borne(at)
		return max(first-second, second-first)
	}
	// The difference falls and then grows, equally steeply: from the place on that is no worse than the next one none is better.
	return sort.Search(span, func(at int) bool { return difference(at) <= difference(at+1) }), api.OK
}
