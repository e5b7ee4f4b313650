package job

import (
	"slices"

	"steeplejack/api"
)

// copied returns tasks that share no memory with those of a list.
func copied(l []api.Task) []api.Task {
	tasks := slices.Clone(l)
	for i, x := range l {
		tasks[i].After = append([]string(nil), x.After...)
	}
	return tasks
}

// Delayed returns the plan in which a task takes more days.
func Delayed(l []api.Task, name string, by int) ([]api.Task, api.Errno) {
	_, i, e := find(l, name)
	switch {
	case e != api.OK:
		return nil, e
	case !between(by, 0, maxDays):
		return nil, api.ErrRange
	case l[i].Days+by > maxDays:
		return nil, api.ErrLimit
	}
	delayed := copied(l)
	delayed[i].Days += by
	return delayed, api.OK
}

// Done returns the plan without a task that waits for no other one.
func Done(l []api.Task, name string) ([]api.Task, api.Errno) {
	_, i, e := find(l, name)
	switch {
	case e != api.OK:
		return nil, e
	case len(l[i].After) > 0:
		return nil, api.ErrState
	case len(l) == 1:
		return nil, api.ErrNone
	}
	left := slices.Delete(copied(l), i, i+1)
	for j := range left {
		left[j].After = slices.DeleteFunc(left[j].After, func(after string) bool { return after == name })
	}
	return left, api.OK
}
