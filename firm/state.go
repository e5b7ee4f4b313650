package firm

import (
	"slices"

	"steeplejack/api"
	"steeplejack/gear"
	"steeplejack/stack"
	"steeplejack/wind"
)

const (
	sides     = 4  // from which wind comes
	perPascal = 20 // a gust's square over its pressure
)

// seen returns the state of a firm, an empty one of none.
func (f *Firm) seen() *state {
	if f.none() {
		return &state{}
	}
	return f.state
}

// goes reports whether work would go in the next minute.
func goes(r api.Rule, gusts []int) bool {
	_, e := wind.Resumes(r, gusts)
	return e == api.ErrState
}

func (s *state) goes() bool { return goes(s.Rule, s.gusts) }

func (s *state) isStack(i int) bool { return between(i, 0, len(s.chimneys)-1) }

// at returns what has become of a stack, nothing if there is none.
func (s *state) at(i int) chimney {
	if !s.isStack(i) {
		return chimney{}
	}
	return s.chimneys[i]
}

// aloft returns how many men are up on all stacks.
func (s *state) aloft() int {
	men := 0
	for _, x := range s.chimneys {
		men += x.men
	}
	return men
}

// hanging returns the links of all rigs that are not taken down.
func (s *state) hanging() [][]api.Link {
	var all [][]api.Link
	for _, r := range s.rigs {
		if len(r.links) > 0 {
			all = append(all, r.links)
		}
	}
	return all
}

// rigged reports whether a rig for a stack is not taken down.
func (s *state) rigged(i int) bool {
	return slices.ContainsFunc(s.rigs, func(r rig) bool { return r.stack == i && len(r.links) > 0 })
}

// free reports whether no item of a rig hangs in another one.
func (s *state) free(links []api.Link) bool {
	taken, _ := gear.Taken(s.items, append(s.hanging(), links))
	return len(taken) == 0
}

// may reports whether a rig may lift some loads on the day.
func (s *state) may(links []api.Link, loads []int) (bool, api.Errno) {
	return gear.May(s.items, links, s.back, s.day, loads)
}

// good reports whether all items of a rig are good on the day: otherwise it may not even lift nothing.
func (s *state) good(links []api.Link) bool {
	ends, _ := gear.Ends(s.items, links)
	may, _ := s.may(links, make([]int, len(ends)))
	return may
}

// stands reports whether a stack stands in a wind like the last gust, from whatever side. Even the greatest gust makes 2,000 pascals only, which a wind may have.
func (s *state) stands(i int) bool {
	gust := 0
	if n := len(s.gusts); n > 0 {
		gust = s.gusts[n-1]
	}
	for side := range sides {
		if ok, _ := stack.Stands(s.Stacks[i], gust*gust/perPascal, side); !ok {
			return false
		}
	}
	return true
}

// Now returns the day.
func (f *Firm) Now() int { return f.seen().day }

// Goes reports whether work goes.
func (f *Firm) Goes() bool { return f.seen().goes() }

// Aloft returns how many men are up on a stack.
func (f *Firm) Aloft(stack int) int { return f.seen().at(stack).men }

// Dogs returns the dogs that stand in a stack.
func (f *Firm) Dogs(stack int) []int { return slices.Clone(f.seen().at(stack).dogs) }

// Felled reports whether a stack is felled.
func (f *Firm) Felled(stack int) bool { return f.seen().at(stack).felled }

// Rigs returns the links of all rigs, none for those that are taken down.
func (f *Firm) Rigs() [][]api.Link {
	var all [][]api.Link
	for _, r := range f.seen().rigs {
		all = append(all, slices.Clone(r.links))
	}
	return all
}

// Gear returns the gear as it is.
func (f *Firm) Gear() []api.Item { return slices.Clone(f.seen().items) }

// Back returns the batches that were called back, in the order of the calls.
func (f *Firm) Back() []string { return slices.Clone(f.seen().back) }

// Money returns the sum of all bills, in pence.
func (f *Firm) Money() int { return f.seen().money }
