package firm

import (
	"slices"

	"steeplejack/api"
	"steeplejack/gear"
	"steeplejack/job"
	"steeplejack/ladder"
	"steeplejack/stack"
	"steeplejack/wind"
)

const (
	fewestMen = 2 // that go up together
	maxRigs   = 50
	maxBack   = 100               // batches
	maxMoney  = 1_000_000_000_000 // pence
	inDate    = 180               // days, from that on which an item was looked at
)

// The commands. What each must ask, it asks in the order of its errors.
type (
	gust   struct{ gust int }
	day    struct{}
	dog    struct{ stack int }
	strike struct{ rig int }
	up     struct{ stack, men int }
	down   struct{ stack, men int }
	look   struct{ mark string }
	call   struct{ batch string }
	fell   struct{ stack int }
	bill   struct{ stack int }

	// hang makes a rig.
	hang struct {
		stack int
		links []api.Link
	}
	lift struct {
		rig   int
		loads []int
	}
)

// chimney returns what has become of a stack, which there must be.
func (s *state) chimney(i int) *chimney {
	must(s.isStack(i), api.ErrName)
	return &s.chimneys[i]
}

// rig returns a rig, which must have been made.
func (s *state) rig(i int) *rig {
	must(between(i, 0, len(s.rigs)-1), api.ErrName)
	return &s.rigs[i]
}

// isName reports whether an item of gear may have a name.
func isName(name string) bool { return gear.Valid([]api.Item{{Mark: name, Load: 1, Batch: name}}) }

func (c *gust) do(s *state) {
	must(wind.ValidGusts([]int{c.gust}), api.ErrRange)
	must(len(s.gusts) < api.MaxGusts, api.ErrState)
	gusts := append(s.gusts, c.gust)
	must(s.aloft() == 0 || goes(s.Rule, gusts), api.ErrWind)
	s.gusts = gusts
}

func (c *day) do(s *state) {
	must(s.aloft() == 0 && s.day < api.MaxDay, api.ErrState)
	s.day++
	s.gusts = nil
}

func (c *dog) do(s *state) {
	x := s.chimney(c.stack)
	must(!x.felled && len(x.dogs) == 0, api.ErrState)
	must(s.goes(), api.ErrWind)
	dogs, e := ladder.Fewest(s.Climb, s.Joints[c.stack])
	must(e == api.OK, e)
	x.dogs = dogs
}

func (c *hang) do(s *state) {
	must(!s.chimney(c.stack).felled, api.ErrState)
	must(gear.ValidRig(s.items, c.links) && len(s.rigs) < maxRigs, api.ErrInvalid)
	must(s.free(c.links) && s.good(c.links), api.ErrGear)
	s.rigs = append(s.rigs, rig{c.stack, slices.Clone(c.links)})
}

func (c *strike) do(s *state) {
	r := s.rig(c.rig)
	must(len(r.links) > 0 && s.chimneys[r.stack].men == 0, api.ErrState)
	r.links = nil
}

func (c *up) do(s *state) {
	x := s.chimney(c.stack)
	must(between(c.men, fewestMen, api.MaxMen), api.ErrRange)
	must(!x.felled && len(x.dogs) > 0 && s.aloft()+c.men <= s.Men, api.ErrState)
	must(s.goes(), api.ErrWind)
	x.men += c.men
}

func (c *down) do(s *state) {
	x := s.chimney(c.stack)
	must(between(c.men, 1, api.MaxMen), api.ErrRange)
	left := x.men - c.men
	must(left == 0 || left >= fewestMen, api.ErrState)
	x.men = left
}

func (c *lift) do(s *state) {
	r := s.rig(c.rig)
	must(len(r.links) > 0 && s.chimneys[r.stack].men > 0, api.ErrState)
	must(s.goes(), api.ErrWind)
	may, e := s.may(r.links, c.loads)
	must(e == api.OK, e)
	must(may, api.ErrGear)
}

func (c *look) do(s *state) {
	items, e := gear.Looked(s.items, c.mark, min(s.day+inDate, api.MaxDay))
	must(e == api.OK, e)
	s.items = items
}

func (c *call) do(s *state) {
	must(isName(c.batch), api.ErrInvalid)
	must(!slices.Contains(s.back, c.batch), api.ErrDuplicate)
	must(len(s.back) < maxBack, api.ErrLimit)
	s.back = append(s.back, c.batch)
}

func (c *fell) do(s *state) {
	x := s.chimney(c.stack)
	must(!x.felled && s.aloft() == 0 && !s.rigged(c.stack), api.ErrState)
	must(s.goes() && s.stands(c.stack), api.ErrWind)
	*x = chimney{felled: true}
}

func (c *bill) do(s *state) {
	must(s.isStack(c.stack), api.ErrName)
	height, _ := stack.Height(s.Stacks[c.stack])
	price, _ := job.Price(s.Rate, height)
	must(s.money+price <= maxMoney, api.ErrLimit)
	s.money += price
}
