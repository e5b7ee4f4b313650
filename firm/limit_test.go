package firm

import (
	"testing"

	"steeplejack/api"
)

// within returns a firm with one stack, whose state is then set: the book is too short to lead to these.
func within(t *testing.T, set func(s *state)) *Firm {
	t.Helper()
	f, e := New(Setup{
		Stacks: [][]api.Course{{{Height: 1_000, Out: 500, In: 300, Weight: 1_000}}}, Joints: [][]api.Joint{{{Height: 5, Sound: true}}},
		Climb: api.Climb{First: 5, Gap: 5, Top: 5, Length: 5, Strength: 5}, Gear: []api.Item{{Mark: "hook", Load: 10, Due: api.MaxDay, Batch: "b"}},
		Rule: api.Rule{Stop: 50, Go: 40, Calm: 2}, Rate: api.Rate{Low: 100, High: 1_000, Come: 500}, Men: 5,
	})
	if e != api.OK {
		t.Fatalf("New: error %d", e)
	}
	set(f.state)
	return f
}

func check(t *testing.T, what string, e, want api.Errno) {
	t.Helper()
	if e != want {
		t.Errorf("%s: error %d, want %d", what, e, want)
	}
}

// 10.2: the most gusts, the last day, the greatest sum, and a lift in wind.
func TestLimits(t *testing.T) {
	gusts := func(n int) func(s *state) { return func(s *state) { s.gusts = make([]int, n) } }
	check(t, "Gust", within(t, gusts(1_999)).Gust(5), api.OK)
	check(t, "Gust of the most", within(t, gusts(2_000)).Gust(5), api.ErrState)
	check(t, "a wrong Gust", within(t, gusts(2_000)).Gust(201), api.ErrRange)

	days := func(n int) func(s *state) { return func(s *state) { s.day = n } }
	check(t, "Day", within(t, days(99_999)).Day(), api.OK)
	check(t, "Day of the last", within(t, days(100_000)).Day(), api.ErrState)

	money := func(n int) func(s *state) { return func(s *state) { s.money = n } }
	f := within(t, money(1_000_000_000_000-600))
	check(t, "Bill", f.Bill(0), api.OK)
	if f.Money() != 1_000_000_000_000 {
		t.Errorf("Money = %d", f.Money())
	}
	check(t, "Bill beyond", within(t, money(1_000_000_000_000-599)).Bill(0), api.ErrLimit)
	check(t, "Bill of no stack", within(t, money(1_000_000_000_000)).Bill(1), api.ErrName)

	blown := func(s *state) {
		s.rigs = []rig{{0, []api.Link{{Mark: "hook", From: -1}}}}
		s.chimneys[0] = chimney{dogs: []int{0}, men: 2}
		s.gusts = []int{60}
	}
	check(t, "Lift in wind", within(t, blown).Lift(0, []int{5}), api.ErrWind)
	check(t, "a wrong Lift in wind", within(t, blown).Lift(0, []int{5, -5}), api.ErrWind)
}

// 10.2: the last day on which an item is in date is one that there is.
func TestLastDue(t *testing.T) {
	for day, due := range map[int]int{0: 180, 99_819: 99_999, 99_820: 100_000, 99_821: 100_000, 100_000: 100_000} {
		f := within(t, func(s *state) { s.day = day })
		check(t, "Look", f.Look("hook"), api.OK)
		if got := f.Gear()[0].Due; got != due {
			t.Errorf("Due on the day %d = %d, want %d", day, got, due)
		}
	}
}
