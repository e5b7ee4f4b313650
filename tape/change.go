package tape

import (
	"slices"

	"steeplejack/api"
)

// without returns new tapes, those of a list without one.
func without(l []api.Tape, i int) []api.Tape { return slices.Concat(l[:i], l[i+1:]) }

// Without returns the tapes of a net without one.
func Without(nodes int, l []api.Tape, i int) ([]api.Tape, api.Errno) {
	switch {
	case !Valid(nodes, l):
		return nil, api.ErrInvalid
	case !between(i, 0, len(l)-1):
		return nil, api.ErrRange
	}
	return without(l, i), api.OK
}

// Added returns the tapes of a net with one more at the end.
func Added(nodes int, l []api.Tape, t api.Tape) ([]api.Tape, api.Errno) {
	switch {
	case !Valid(nodes, l) || !validTape(nodes, t):
		return nil, api.ErrInvalid
	case len(l) == api.MaxTapes:
		return nil, api.ErrLimit
	}
	return slices.Concat(l, []api.Tape{t}), api.OK
}

// Merged returns the net in which two different nodes are one.
func Merged(nodes int, l []api.Tape, a, b int) (int, []api.Tape, api.Errno) {
	if e := check(nodes, l, a, b); e != api.OK {
		return 0, nil, e
	}
	if a == b {
		return 0, nil, api.ErrState
	}
	kept, gone := min(a, b), max(a, b)
	renamed := func(x int) int {
		switch {
		case x == gone:
			return kept
		case x > gone:
			return x - 1
		}
		return x
	}
	var merged []api.Tape
	for _, t := range l {
		x, y := renamed(t.A), renamed(t.B)
		if x != y {
			merged = append(merged, api.Tape{A: min(x, y), B: max(x, y), Ohms: t.Ohms})
		}
	}
	return nodes - 1, merged, api.OK
}
