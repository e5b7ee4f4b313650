package lean

import (
	"slices"

	"steeplejack/api"
)

const (
	maxLimit = 2 * api.MaxOffset
	maxAhead = 40_000 // days that Reaches looks ahead
)

// Moved returns the indexes of the marks at which East or North differs by more than by.
func Moved(a, b []api.Mark, by int) ([]int, api.Errno) {
	switch {
	case !Valid(a) || !Valid(b):
		return nil, api.ErrInvalid
	case !between(by, 0, api.MaxOffset):
		return nil, api.ErrRange
	case len(a) != len(b):
		return nil, api.ErrSize
	case !slices.EqualFunc(a, b, sameHeight):
		return nil, api.ErrState
	}
	var out []int
	for i := range a {
		if abs(a[i].East-b[i].East) > by || abs(a[i].North-b[i].North) > by {
			out = append(out, i)
		}
	}
	return out, api.OK
}

func sameHeight(a, b api.Mark) bool { return a.Height == b.Height }

// Reaches returns the first day from to on at which a mark, going on as it did from a to b, is at least limit from the plumb line.
func Reaches(a, b api.Mark, from, to, limit int) (int, api.Errno) {
	if !validMark(a) || !validMark(b) {
		return 0, api.ErrInvalid
	}
	if !between(from, 0, api.MaxDay) || !between(to, from+1, api.MaxDay) || !between(limit, 1, maxLimit) {
		return 0, api.ErrRange
	}
	days := to - from
	// In millimetres times days; days ahead are few enough for the squares to fit into 63 bits.
	for ahead := range maxAhead + 1 {
		east := b.East*days + (b.East-a.East)*ahead
		north := b.North*days + (b.North-a.North)*ahead
		if east*east+north*north >= limit*days*limit*days {
			return to + ahead, api.OK
		}
	}
	return 0, api.ErrNone
}

// Turned returns the survey turned by quarters from east to north.
func Turned(l []api.Mark, quarters int) ([]api.Mark, api.Errno) {
	if !Valid(l) {
		return nil, api.ErrInvalid
	}
	out := slices.Clone(l)
	for range (quarters%4 + 4) % 4 {
		for i, m := range out {
			out[i].East, out[i].North = -m.North, m.East
		}
	}
	return out, api.OK
}
