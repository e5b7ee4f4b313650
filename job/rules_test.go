package job_test

import (
	"slices"
	"strings"
	"testing"

	"steeplejack/api"
	"steeplejack/job"
)

// callAll makes all calls of the package.
func callAll(l []api.Task, name string, n, m int, list []int, r api.Rate) {
	job.Check(l)
	job.Order(l)
	job.Earliest(l)
	job.Latest(l)
	job.Length(l)
	job.Chain(l)
	job.IsChain(l, list)
	job.Slack(l, name)
	job.Waits(l, name)
	job.Right(l, n, list)
	job.Listed(l, n)
	job.Ends(l, list)
	job.Men(l, list, n)
	job.Bound(l, n)
	job.Delayed(l, name, n)
	job.Done(l, name)
	job.ValidRate(r)
	job.Price(r, n)
	job.Standing(r, n, m, n)
	job.Standing(r, 5, n, m)
	job.Parse(job.Format(l))
	job.Parse(name)
}

// R1, P1 and P9.1: no call panics, whatever its numbers and strings.
func TestWildArguments(t *testing.T) {
	for _, a := range wild {
		for _, b := range wild {
			for _, l := range [][]api.Task{example(), {task("a", a, b)}, {task("a", a, 1), task("b", 1, b, "a")}, tasks("a:1000:16")} {
				for _, list := range [][]int{nil, {a}, {a, b}, {a, b, a}, {0, a, b}} {
					callAll(l, "a", a, b, list, exampleRate)
				}
			}
			callAll(example(), "b", a, b, []int{0, 2, 2}, rate(a, b, a, b))
			callAll(example(), "b", 5, 5, []int{0, 2, 2}, rate(1, 5, a, b))
		}
	}
	for _, name := range append([]string{"a", strings.Repeat("a", 1<<17), strings.Repeat("9 ", 30_000), strings.Repeat(" ", api.MaxText), strings.Repeat("\n", api.MaxText), "m 1 1 " + strings.Repeat("m ", 30_000) + "m\n"}, notNames...) {
		for _, l := range [][]api.Task{example(), {task(name, 1, 1)}, {task("a", 1, 1, name)}, {task("a", 1, 1, name, name), task(name, 1, 1, "a")}} {
			callAll(l, name, 5, 5, []int{0}, exampleRate)
		}
	}
	for _, x := range wrongPlans() {
		callAll(x.l, "a", 5, 5, []int{0, 1, 0}, api.Rate{})
	}
	callAll(nil, "", 0, 0, nil, api.Rate{})
	callAll(make([]api.Task, 1<<16), "", 1, 1, make([]int, 1<<16), exampleRate)
	callAll(example(), "a", 1, 1, make([]int, 1<<16), exampleRate)
}

// P9.1: calls with the most tasks end.
func TestLargest(t *testing.T) {
	r := random()
	plans := [][]api.Task{dense(), alike(20, 1_000, 16), row(20, 1_000, 16)}
	for range 50 {
		plans = append(plans, randomTasks(r, 20, 1_000, 16))
	}
	for _, l := range plans {
		for _, x := range l {
			callAll(l, x.Name, 16, 100, make([]int, 20), exampleRate)
		}
	}
}

// R4 and P9.1: neither arguments nor their spare capacity change.
func TestArgumentsStay(t *testing.T) {
	makeTasks := func() []api.Task {
		l := append(house(), house()...)
		for i, x := range l {
			l[i].After = append(x.After, "spare", "capacity")[:len(x.After)]
		}
		return l
	}
	makeDays := func() []int { return []int{12, 8, 3, 0, 0, 6, 7, 7} }
	l, days := makeTasks(), makeDays()
	for _, x := range house() {
		for n := range 9 {
			callAll(l[:6], x.Name, n, 9, days[:6], exampleRate)
			callAll(l[:7], x.Name, n, 9, days[:7], exampleRate)
			callAll(l[2:6], x.Name, n, 9, days[2:6], exampleRate)
		}
	}
	if !sameTasks(l, makeTasks()) || !slices.Equal(days, makeDays()) {
		t.Errorf("arguments change: %v, %v", l, days)
	}
	for i, x := range makeTasks() {
		if all := l[i].After[:len(x.After)+2]; !slices.Equal(all, x.After[:len(x.After)+2]) {
			t.Errorf("the spare capacity changes: %v", all)
		}
	}
}

// checkNew checks that a call's result is new memory each time: the first one is overwritten, up to its capacity.
func checkNew(t *testing.T, name string, call func() []int) {
	t.Helper()
	first := call()
	want := slices.Clone(first)
	first = first[:cap(first)]
	for i := range first {
		first[i] = -7
	}
	if len(want) == 0 || !slices.Equal(call(), want) {
		t.Errorf("%s: results share memory", name)
	}
}

// checkNewTasks checks the same of tasks and their Afters, and that these share no memory with each other.
func checkNewTasks(t *testing.T, name string, call func() []api.Task) {
	t.Helper()
	first := call()
	want := copied(first)
	for i, x := range first {
		after := x.After[:cap(x.After)]
		for j := range after {
			after[j] = "other"
		}
		for j, y := range first[i+1:] {
			if !slices.Equal(y.After, want[i+1+j].After) {
				t.Errorf("%s: Afters share memory", name)
			}
		}
	}
	first = first[:cap(first)]
	for i := range first {
		first[i] = api.Task{}
	}
	if len(want) == 0 || !sameTasks(call(), want) {
		t.Errorf("%s: results share memory", name)
	}
}

// R4 and P9.1: results are new memory.
func TestNewMemory(t *testing.T) {
	l := house()
	checkNew(t, "Order", func() []int { x, _ := job.Order(l); return x })
	checkNew(t, "Earliest", func() []int { x, _ := job.Earliest(l); return x })
	checkNew(t, "Latest", func() []int { x, _ := job.Latest(l); return x })
	checkNew(t, "Chain", func() []int { x, _ := job.Chain(l); return x })
	checkNew(t, "Waits", func() []int { x, _ := job.Waits(l, "dig"); return x })
	checkNew(t, "Listed", func() []int { x, _ := job.Listed(l, 5); return x })
	for _, x := range l {
		checkNewTasks(t, "Delayed", func() []api.Task { d, _ := job.Delayed(l, x.Name, 5); return d })
		checkNewTasks(t, "Delayed by nothing", func() []api.Task { d, _ := job.Delayed(l, x.Name, 0); return d })
	}
	checkNewTasks(t, "Done", func() []api.Task { d, _ := job.Done(l, "dig"); return d })
	checkNewTasks(t, "Done", func() []api.Task { d, _ := job.Done(l, "fence"); return d })
	checkNewTasks(t, "Parse", func() []api.Task { d, _, _ := job.Parse(job.Format(l)); return d })
	if !sameTasks(l, house()) {
		t.Error("results share memory with arguments")
	}
}

// R4: nil and empty are alike.
func TestNilAndEmpty(t *testing.T) {
	for _, l := range [][]api.Task{nil, {}} {
		wantError(t, l, "a", 5, nil, api.ErrNone)
		if job.Format(l) != "" || job.IsChain(l, nil) || job.Right(l, 5, nil) {
			t.Errorf("the plan %#v", l)
		}
	}
	for _, list := range [][]int{nil, {}} {
		end, e := job.Ends(example(), list)
		want(t, "Ends", end, e, 0, api.ErrRange)
		if job.IsChain(example(), list) || job.Right(example(), 5, list) {
			t.Errorf("the list %#v", list)
		}
	}
	for _, after := range [][]string{nil, {}} {
		l := []api.Task{task("a", 2, 1, after...), task("b", 1, 1, "a")}
		if s := job.Format(l); s != "a 2 1\nb 1 1 a\n" {
			t.Errorf("Format(%v) = %q", l, s)
		}
		done, e := job.Done(l, "a")
		wantTasks(t, "Done", done, e, tasks("b:1:1"), api.OK)
	}
}

// R7: the same call gives the same result.
func TestSameAgain(t *testing.T) {
	r := random()
	l := randomTasks(r, 20, 9, 16)
	order, chain, listed := mustDays(t, job.Order, l), mustDays(t, job.Chain, l), mustListed(t, l, 20)
	for range 30 {
		wantList(t, "Order", mustDays(t, job.Order, l), api.OK, order, api.OK)
		wantList(t, "Chain", mustDays(t, job.Chain, l), api.OK, chain, api.OK)
		wantList(t, "Listed", mustListed(t, l, 20), api.OK, listed, api.OK)
	}
}
