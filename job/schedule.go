package job

import (
	"cmp"
	"maps"
	"slices"

	"steeplejack/api"
)

const (
	maxTeam  = 100       // men of a schedule
	maxBegin = 100_000   // the last day on which a task may begin
	maxAsked = 200_000   // the last day of which Men is asked
	never    = 1_000_000 // on this day, behind all others, begins a task that has not begun
)

// schedule gives each task of a plan a day on which it begins.
type schedule struct {
	plan
	begins []int
}

// scheduled returns the schedule of a plan and its days.
func scheduled(l []api.Task, days []int) (schedule, api.Errno) {
	p, e := open(l)
	switch {
	case e != api.OK:
		return schedule{}, e
	case len(days) != len(l) || slices.ContainsFunc(days, func(day int) bool { return !between(day, 0, maxBegin) }):
		return schedule{}, api.ErrRange
	}
	return schedule{p, days}, api.OK
}

// end returns the day after the last one of a task.
func (s schedule) end(i int) int { return s.begins[i] + s.tasks[i].Days }

// menOn returns how many men a schedule takes on a day.
func (s schedule) menOn(day int) int {
	men := 0
	for i, x := range s.tasks {
		if between(day, s.begins[i], s.end(i)-1) {
			men += x.Men
		}
	}
	return men
}

// nextEnd returns the first day behind a day on which a task has ended.
func (s schedule) nextEnd(day int) int {
	next := never
	for i := range s.tasks {
		if end := s.end(i); end > day {
			next = min(next, end)
		}
	}
	return next
}

// law is what a right schedule keeps for each of its tasks.
type law struct {
	kept func(s schedule, i int) bool
}

// laws returns all laws for a number of men.
func laws(men int) []law {
	return []law{
		{func(s schedule, i int) bool {
			return !slices.ContainsFunc(s.after[i], func(a int) bool { return s.begins[i] < s.end(a) })
		}},
		// On other days than those on which tasks begin a schedule takes no more men than on the day before.
		{func(s schedule, i int) bool { return s.menOn(s.begins[i]) <= men }},
	}
}

// Right reports whether a schedule is right for a number of men.
func Right(l []api.Task, men int, days []int) bool {
	s, e := scheduled(l, days)
	if e != api.OK || !between(men, 1, maxTeam) {
		return false
	}
	for _, x := range laws(men) {
		for i := range l {
			if !x.kept(s, i) {
				return false
			}
		}
	}
	return true
}

// manned returns the plan of a list of tasks, if there are men enough for each task alone.
func manned(l []api.Task, men int) (plan, api.Errno) {
	p, e := open(l)
	switch {
	case e != api.OK:
		return plan{}, e
	case !between(men, 1, maxTeam):
		return plan{}, api.ErrRange
	case slices.ContainsFunc(l, func(x api.Task) bool { return x.Men > men }):
		return plan{}, api.ErrNone
	}
	return p, api.OK
}

// listed returns the listed schedule for men who are enough for each task alone.
func (p plan) listed(men int) schedule {
	s := schedule{p, slices.Repeat([]int{never}, len(p.tasks))}
	latest := p.latest()
	waiting := maps.Clone(p.at)
	// Between two days on which tasks end there are no more men, and no more tasks are ready.
	for day := 0; len(waiting) > 0; day = s.nextEnd(day) {
		ended := func(i int) bool { return s.end(i) <= day }
		ready := slices.SortedStableFunc(p.ready(waiting, ended), func(i, j int) int { return cmp.Compare(latest[i], latest[j]) })
		for _, i := range ready {
			if s.menOn(day)+p.tasks[i].Men <= men {
				s.begins[i] = day
				delete(waiting, p.tasks[i].Name)
			}
		}
	}
	return s
}

// Listed returns the days of the listed schedule.
func Listed(l []api.Task, men int) ([]int, api.Errno) {
	p, e := manned(l, men)
	if e != api.OK {
		return nil, e
	}
	return p.listed(men).begins, api.OK
}

// Ends returns the day after the last one of a schedule.
func Ends(l []api.Task, days []int) (int, api.Errno) {
	s, e := scheduled(l, days)
	if e != api.OK {
		return 0, e
	}
	last := 0
	for i := range l {
		last = max(last, s.end(i))
	}
	return last, api.OK
}

// Men returns how many men a schedule takes on a day.
func Men(l []api.Task, days []int, day int) (int, api.Errno) {
	s, e := scheduled(l, days)
	switch {
	case e != api.OK:
		return 0, e
	case !between(day, 0, maxAsked):
		return 0, api.ErrRange
	}
	return s.menOn(day), api.OK
}

// Bound returns a day before which no right schedule ends.
func Bound(l []api.Task, men int) (int, api.Errno) {
	p, e := manned(l, men)
	if e != api.OK {
		return 0, e
	}
	work := 0
	for _, x := range l {
		work += x.Men * x.Days
	}
	return max(p.length(), (work+men-1)/men), api.OK
}
