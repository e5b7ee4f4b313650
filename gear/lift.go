package gear

import (
	"slices"

	"steeplejack/api"
)

const maxBack = 100 // batches that are called back

// fault is what makes a link weak, if it is found in its item and what it bears.
type fault struct {
	found func(x api.Item, bears int) bool
}

// faults returns all faults on a day on which some batches are called back.
func faults(back []string, day int) []fault {
	return []fault{
		{func(x api.Item, bears int) bool { return x.Due < day }},
		{func(x api.Item, bears int) bool { return slices.Contains(back, x.Batch) }},
		{func(x api.Item, bears int) bool { return bears > x.Load }},
	}
}

// Weak returns the links of a rig whose items are not good on a day, or bear more than their Load.
func Weak(g []api.Item, r []api.Link, back []string, day int, loads []int) ([]int, api.Errno) {
	opened, ok := open(g, r)
	switch {
	case !ok:
		return nil, api.ErrInvalid
	case len(back) > maxBack:
		return nil, api.ErrLimit
	}
	borne, e := opened.borne(loads)
	switch {
	case e != api.OK:
		return nil, e
	case !validDay(day):
		return nil, api.ErrRange
	}
	all := faults(back, day)
	weak := func(i int) bool {
		return slices.ContainsFunc(all, func(f fault) bool { return f.found(opened.items[i], borne[i]) })
	}
	return those(len(r), weak), api.OK
}

// May reports whether a rig may lift some loads on a day.
func May(g []api.Item, r []api.Link, back []string, day int, loads []int) (bool, api.Errno) {
	weak, e := Weak(g, r, back, day, loads)
	return e == api.OK && len(weak) == 0, e
}
