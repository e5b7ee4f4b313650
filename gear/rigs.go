package gear

import (
	"slices"

	"steeplejack/api"
)

const maxRigs = 50

// openAll returns some rigs with their items.
func openAll(g []api.Item, rigs [][]api.Link) ([]rig, api.Errno) {
	switch {
	case !Valid(g):
		return nil, api.ErrInvalid
	case len(rigs) > maxRigs:
		return nil, api.ErrLimit
	}
	var opened []rig
	for _, links := range rigs {
		r, ok := open(g, links)
		if !ok {
			return nil, api.ErrInvalid
		}
		opened = append(opened, r)
	}
	return opened, api.OK
}

// Touched returns the indexes of the rigs that have an item of a batch.
func Touched(g []api.Item, rigs [][]api.Link, batch string) ([]int, api.Errno) {
	opened, e := openAll(g, rigs)
	if e != api.OK {
		return nil, e
	}
	of := func(x api.Item) bool { return x.Batch == batch }
	return those(len(opened), func(i int) bool { return slices.ContainsFunc(opened[i].items, of) }), api.OK
}

// Taken returns the indexes of the items that stand in more than one of some rigs.
func Taken(g []api.Item, rigs [][]api.Link) ([]int, api.Errno) {
	opened, e := openAll(g, rigs)
	if e != api.OK {
		return nil, e
	}
	times := map[string]int{}
	for _, r := range opened {
		for _, x := range r.links {
			times[x.Mark]++
		}
	}
	return those(len(g), func(i int) bool { return times[g[i].Mark] > 1 }), api.OK
}
