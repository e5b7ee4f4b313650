package gear

import (
	"iter"
	"slices"

	"steeplejack/api"
)

const (
	maxLinks = 32
	topmost  = -1 // From of the link that hangs from none
)

// rig is a valid rig with the item of each link.
type rig struct {
	links []api.Link
	items []api.Item
}

// open returns a rig with its items, if it is valid for gear that is valid.
func open(g []api.Item, links []api.Link) (r rig, ok bool) {
	at, ok := byMark(g)
	if !ok || !between(len(links), 1, maxLinks) {
		return rig{}, false
	}
	for i, x := range links {
		item, known := at[x.Mark]
		if !known || !mayHang(i, x.From) || has(links[:i], x.Mark) {
			return rig{}, false
		}
		r.items = append(r.items, g[item])
	}
	r.links = links
	return r, true
}

// mayHang reports whether the link i of a valid rig may hang from a link.
func mayHang(i, from int) bool {
	if i == 0 {
		return from == topmost
	}
	return between(from, 0, i-1)
}

// has reports whether the item with a mark is at one of some links.
func has(links []api.Link, mark string) bool {
	return slices.ContainsFunc(links, func(x api.Link) bool { return x.Mark == mark })
}

// under yields the links that hang from a link, in one or more steps.
func (r rig) under(from int) iter.Seq[int] {
	return func(yield func(int) bool) {
		for i := from + 1; i < len(r.links); i++ {
			if r.links[i].From != from {
				continue
			}
			if !yield(i) {
				return
			}
			for lower := range r.under(i) {
				if !yield(lower) {
					return
				}
			}
		}
	}
}

// up yields a link, that from which it hangs, and so on up to the topmost.
func (r rig) up(from int) iter.Seq[int] {
	return func(yield func(int) bool) {
		for i := from; i != topmost && yield(i); {
			i = r.links[i].From
		}
	}
}

func (r rig) isEnd(i int) bool {
	for range r.under(i) {
		return false
	}
	return true
}

func (r rig) ends() []int { return those(len(r.links), r.isEnd) }

// borne returns what each link bears with a load at each end.
func (r rig) borne(loads []int) ([]int, api.Errno) {
	ends := r.ends()
	if len(loads) != len(ends) {
		return nil, api.ErrSize
	}
	own := make([]int, len(r.links))
	for i, load := range loads {
		if !between(load, 0, api.MaxLoad) {
			return nil, api.ErrRange
		}
		own[ends[i]] = load
	}
	borne := slices.Clone(own)
	for i := range borne {
		for lower := range r.under(i) {
			borne[i] += own[lower]
		}
	}
	return borne, api.OK
}

// limits returns the Load of each link's item.
func (r rig) limits() []int {
	var limits []int
	for _, x := range r.items {
		limits = append(limits, x.Load)
	}
	return limits
}

// least returns the least of the links' numbers from a link up.
func (r rig) least(numbers []int, from int) int {
	least := numbers[from]
	for i := range r.up(from) {
		least = min(least, numbers[i])
	}
	return least
}

// shares returns the loads with the greatest sum that the links bear, the first ones as great as can be.
func (r rig) shares() []int {
	// An end may take all that is left: a later one loses by it no more than it takes.
	left := r.limits()
	var shares []int
	for _, end := range r.ends() {
		share := r.least(left, end)
		for i := range r.up(end) {
			left[i] -= share
		}
		shares = append(shares, share)
	}
	return shares
}

// ValidRig reports whether a rig is valid for gear.
func ValidRig(g []api.Item, r []api.Link) bool {
	_, ok := open(g, r)
	return ok
}

// Ends returns the links of a rig from which no other one hangs.
func Ends(g []api.Item, r []api.Link) ([]int, api.Errno) {
	opened, ok := open(g, r)
	if !ok {
		return nil, api.ErrInvalid
	}
	return opened.ends(), api.OK
}

// Borne returns what each link of a rig bears with a load at each end.
func Borne(g []api.Item, r []api.Link, loads []int) ([]int, api.Errno) {
	opened, ok := open(g, r)
	if !ok {
		return nil, api.ErrInvalid
	}
	return opened.borne(loads)
}

// Most returns the greatest load that may hang at one end alone.
func Most(g []api.Item, r []api.Link, end int) (int, api.Errno) {
	opened, ok := open(g, r)
	switch {
	case !ok:
		return 0, api.ErrInvalid
	case !between(end, 0, len(r)-1):
		return 0, api.ErrRange
	case !opened.isEnd(end):
		return 0, api.ErrState
	}
	return opened.least(opened.limits(), end), api.OK
}

// Greatest returns the greatest sum of loads that a rig's links bear.
func Greatest(g []api.Item, r []api.Link) (int, api.Errno) {
	shares, e := Shares(g, r)
	sum := 0
	for _, share := range shares {
		sum += share
	}
	return sum, e
}

// Shares returns the loads at the ends with the greatest sum that a rig's links bear; of several lists that which is greatest at the first end, then at the second one, and so on.
func Shares(g []api.Item, r []api.Link) ([]int, api.Errno) {
	opened, ok := open(g, r)
	if !ok {
		return nil, api.ErrInvalid
	}
	return opened.shares(), api.OK
}

// Until returns the least Due of a rig's items.
func Until(g []api.Item, r []api.Link) (int, api.Errno) {
	opened, ok := open(g, r)
	if !ok {
		return 0, api.ErrInvalid
	}
	until := api.MaxDay
	for _, x := range opened.items {
		until = min(until, x.Due)
	}
	return until, api.OK
}

// Swapped returns a rig with another item at a link.
func Swapped(g []api.Item, r []api.Link, link int, mark string) ([]api.Link, api.Errno) {
	switch {
	case !ValidRig(g, r):
		return nil, api.ErrInvalid
	case !between(link, 0, len(r)-1):
		return nil, api.ErrRange
	}
	if _, e := Find(g, mark); e != api.OK {
		return nil, e
	}
	if has(r, mark) {
		return nil, api.ErrDuplicate
	}
	return with(r, link, api.Link{Mark: mark, From: r[link].From}), api.OK
}
