package job

import (
	"iter"
	"maps"
	"slices"

	"steeplejack/api"
)

// ready yields, in the order of the list, the tasks that are waiting, and whose Afters have all ended.
func (p plan) ready(waiting map[string]int, ended func(i int) bool) iter.Seq[int] {
	return func(yield func(int) bool) {
		for i, x := range p.tasks {
			_, waits := waiting[x.Name]
			if waits && !slices.ContainsFunc(p.after[i], func(a int) bool { return !ended(a) }) && !yield(i) {
				return
			}
		}
	}
}

// ordered returns the tasks in the first order in which each comes after all its Afters, without those that can't come so.
func (p plan) ordered() []int {
	waiting := maps.Clone(p.at)
	ended := func(i int) bool {
		_, waits := waiting[p.tasks[i].Name]
		return !waits
	}
	var order []int
	for range p.tasks {
		for i := range p.ready(waiting, ended) {
			order = append(order, i)
			delete(waiting, p.tasks[i].Name)
			// A task may be ready by now that is in front of the next one.
			break
		}
	}
	return order
}

// earliest returns the earliest day of each task.
func (p plan) earliest() []int {
	days := make([]int, len(p.tasks))
	for _, i := range p.order {
		for _, a := range p.after[i] {
			days[i] = max(days[i], days[a]+p.tasks[a].Days)
		}
	}
	return days
}

// tails returns for each task the greatest sum of Days of a chain that it begins.
func (p plan) tails() []int {
	tails := make([]int, len(p.tasks))
	for _, i := range slices.Backward(p.order) {
		tails[i] += p.tasks[i].Days
		for _, a := range p.after[i] {
			tails[a] = max(tails[a], tails[i])
		}
	}
	return tails
}

// latest returns the latest day of each task.
func (p plan) latest() []int {
	days := p.tails()
	length := slices.Max(days)
	for i, tail := range days {
		days[i] = length - tail
	}
	return days
}

func (p plan) length() int { return slices.Max(p.tails()) }

// goesOn reports whether a task may be the next one of a chain.
func (p plan) goesOn(chain []int, next int) bool {
	return len(chain) == 0 || slices.Contains(p.after[next], chain[len(chain)-1])
}

// longest returns the first one of the longest chains.
func (p plan) longest() []int {
	tails := p.tails()
	var chain []int
	var extend func(days int)
	extend = func(days int) {
		for i, tail := range tails {
			if tail == days && p.goesOn(chain, i) {
				chain = append(chain, i)
				extend(days - p.tasks[i].Days)
				return
			}
		}
	}
	extend(slices.Max(tails))
	return chain
}

// Order returns the first one of the orders in which each task comes after all its Afters.
func Order(l []api.Task) ([]int, api.Errno) {
	p, e := open(l)
	return p.order, e
}

// Earliest returns the earliest day of each task.
func Earliest(l []api.Task) ([]int, api.Errno) {
	p, e := open(l)
	if e != api.OK {
		return nil, e
	}
	return p.earliest(), api.OK
}

// Latest returns the latest day of each task.
func Latest(l []api.Task) ([]int, api.Errno) {
	p, e := open(l)
	if e != api.OK {
		return nil, e
	}
	return p.latest(), api.OK
}

// Length returns a plan's length.
func Length(l []api.Task) (int, api.Errno) {
	p, e := open(l)
	if e != api.OK {
		return 0, e
	}
	return p.length(), api.OK
}

// Chain returns the longest chain, of several the first one.
func Chain(l []api.Task) ([]int, api.Errno) {
	p, e := open(l)
	if e != api.OK {
		return nil, e
	}
	return p.longest(), api.OK
}

// IsChain reports whether indexes are a chain.
func IsChain(l []api.Task, chain []int) bool {
	p, e := open(l)
	if e != api.OK {
		return false
	}
	for n, i := range chain {
		if !between(i, 0, len(l)-1) || !p.goesOn(chain[:n], i) {
			return false
		}
	}
	return len(chain) > 0
}

// Slack returns a task's latest day less its earliest one.
func Slack(l []api.Task, name string) (int, api.Errno) {
	p, i, e := find(l, name)
	if e != api.OK {
		return 0, e
	}
	return p.latest()[i] - p.earliest()[i], api.OK
}

// Waits returns the tasks that must wait for a task.
func Waits(l []api.Task, name string) ([]int, api.Errno) {
	p, i, e := find(l, name)
	if e != api.OK {
		return nil, e
	}
	waits := make([]bool, len(l))
	for _, j := range p.order {
		waits[j] = slices.ContainsFunc(p.after[j], func(a int) bool { return a == i || waits[a] })
	}
	var waiting []int
	for j, must := range waits {
		if must {
			waiting = append(waiting, j)
		}
	}
	return waiting, api.OK
}
