package wind

import (
	"iter"

	"steeplejack/api"
)

// missing yields the minutes without readings.
func missing(gusts []int) iter.Seq[int] {
	return func(yield func(int) bool) {
		for minute, gust := range gusts {
			if gust == noReading && !yield(minute) {
				return
			}
		}
	}
}

// Highest returns the greatest gust of the minutes from `from` to `to` - 1.
func Highest(l []int, from, to int) (int, api.Errno) {
	switch {
	case !ValidGusts(l):
		return 0, api.ErrInvalid
	case !within(from, to, len(l)):
		return 0, api.ErrRange
	}
	highest := noReading
	for _, gust := range l[from:to] {
		highest = max(highest, gust)
	}
	if highest == noReading {
		return 0, api.ErrNone
	}
	return highest, api.OK
}

// Missing returns the spans of minutes without readings.
func Missing(l []int) ([]api.Span, api.Errno) {
	if !ValidGusts(l) {
		return nil, api.ErrInvalid
	}
	return spans(missing(l)), api.OK
}

// Joined returns for each minute the greater one of two gusts.
func Joined(l, m []int) ([]int, api.Errno) {
	switch {
	case !ValidGusts(l) || !ValidGusts(m):
		return nil, api.ErrInvalid
	case len(l) != len(m):
		return nil, api.ErrSize
	}
	joined := make([]int, len(l))
	for minute := range l {
		joined[minute] = max(l[minute], m[minute])
	}
	return joined, api.OK
}
