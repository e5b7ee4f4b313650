package wind

import "steeplejack/api"

// tally is the least and the greatest number of minutes in which work may have gone, if it can be at all.
type tally struct {
	can         bool
	least, most int
}

// or returns the tally of what one or the other may be.
func (t tally) or(u tally) tally {
	switch {
	case !t.can:
		return u
	case !u.can:
		return t
	}
	return tally{true, min(t.least, u.least), max(t.most, u.most)}
}

// with returns the tally after a minute.
func (t tally) with(x step) tally {
	if x.goes() {
		t.least++
		t.most++
	}
	return t
}

// counts has a tally for each number of calm minutes for which work may wait.
type counts [maxCalm + 1]tally

// after returns the counts after a minute with one of some gusts.
func (c counts) after(s states, gusts []int) counts {
	var after counts
	for waits, t := range c {
		if !t.can {
			continue
		}
		for _, gust := range gusts {
			x := s.step(waits, gust)
			after[x.after] = after[x.after].or(t.with(x))
		}
	}
	return after
}

// readings returns the gusts that a minute may have had: of those that a missing one may be, one that is calm and one that stops work. One between does what the first does while work goes, and what the second does while it is stopped.
func (w watch) readings(gust int) []int {
	if gust == noReading {
		return []int{0, w.Stop}
	}
	return []int{gust}
}

// bounds returns the tally after all minutes.
func (w watch) bounds() tally {
	var now counts
	now[0].can = true
	states := statesOf(w.Rule)
	for _, gust := range w.gusts {
		now = now.after(states, w.readings(gust))
	}
	var all tally
	for _, t := range now {
		all = all.or(t)
	}
	return all
}

// Bounds returns the least and the greatest number of minutes in which work can go, whatever the missing gusts were.
func Bounds(r api.Rule, l []int) (least, most int, e api.Errno) {
	w := watch{r, l}
	if !w.valid() {
		return 0, 0, api.ErrInvalid
	}
	all := w.bounds()
	return all.least, all.most, api.OK
}
