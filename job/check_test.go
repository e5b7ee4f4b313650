package job_test

import (
	"math"
	"slices"
	"strings"
	"testing"

	"steeplejack/api"
	"steeplejack/job"
)

// 9.1: plans that are valid.
func TestCheck(t *testing.T) {
	eleven := alike(11, 1, 1)
	for _, x := range eleven[:10] {
		eleven[10].After = append(eleven[10].After, x.Name)
	}
	right := [][]api.Task{
		example(), house(), dense(), eleven, alike(1, 1, 1), alike(20, 1_000, 16), row(20, 1, 1), tasks("a:1000:16"), tasks("a:1:1:b b:1:1"), tasks("a:1:1:b:c b:1:1:c c:1:1"),
	}
	for _, name := range names {
		right = append(right, []api.Task{task("m", 1, 1, name), task(name, 1, 1)})
	}
	for _, l := range right {
		if e := job.Check(l); e != api.OK {
			t.Errorf("Check(%v): error %d", l, e)
		}
	}
}

// 9.1: what is wrong with a plan.
func TestCheckErrors(t *testing.T) {
	wrong := append(wrongPlans(),
		wrongPlan{[]api.Task{}, api.ErrNone},
		wrongPlan{make([]api.Task, 1), api.ErrInvalid},
		wrongPlan{make([]api.Task, 20), api.ErrInvalid},
		wrongPlan{make([]api.Task, 21), api.ErrLimit},
		wrongPlan{make([]api.Task, 1<<16), api.ErrLimit},
		wrongPlan{tasks("a:1:1:a"), api.ErrState},
		wrongPlan{tasks("a:1:1:b b:1:1:c c:1:1:a d:1:1"), api.ErrState},
		wrongPlan{tasks("d:1:1 e:1:1:d a:1:1:b:d b:1:1:c:e c:1:1:a"), api.ErrState},
		wrongPlan{tasks("a:1:1:b"), api.ErrName},
		wrongPlan{[]api.Task{task("a", 1, 1, "")}, api.ErrName},
		wrongPlan{[]api.Task{task("a", 1, 1), task("b", 1, 1, "a", "A")}, api.ErrName},
		wrongPlan{tasks("a:1:1 b:1:1:a:c:a c:1:1"), api.ErrDuplicate},
		wrongPlan{[]api.Task{task("a", 1, 1, slices.Repeat([]string{"x"}, 1<<16)...)}, api.ErrLimit},
		wrongPlan{[]api.Task{task("a", 1, 1, slices.Repeat([]string{"x"}, 11)...)}, api.ErrLimit},
		wrongPlan{[]api.Task{task("a", 1, 1, slices.Repeat([]string{"x"}, 10)...)}, api.ErrName},
		wrongPlan{[]api.Task{task("b", 1, 1), task("a", 1, 1, slices.Repeat([]string{"b"}, 10)...)}, api.ErrDuplicate},
	)
	for _, name := range notNames {
		wrong = append(wrong, wrongPlan{[]api.Task{task("a", 1, 1), task(name, 1, 1)}, api.ErrInvalid}, wrongPlan{[]api.Task{task("a", 1, 1, name)}, api.ErrName})
	}
	for _, n := range []int{math.MinInt, -1, 0, 1_001, math.MaxInt} {
		wrong = append(wrong, wrongPlan{[]api.Task{task("a", n, 1)}, api.ErrInvalid})
	}
	for _, n := range []int{math.MinInt, -1, 0, 17, math.MaxInt} {
		wrong = append(wrong, wrongPlan{[]api.Task{task("a", 1, n)}, api.ErrInvalid})
	}
	for _, x := range wrong {
		if e := job.Check(x.l); e != x.e {
			t.Errorf("Check(%v): error %d, want %d", x.l, e, x.e)
		}
	}
}

// 9.1 and R2: which of several errors is returned.
func TestCheckOrder(t *testing.T) {
	eleven := strings.Repeat(":x", 11)
	for _, c := range []struct {
		name, l string
		want    api.Errno
	}{
		{"ErrInvalid is before ErrDuplicate in a task", "a:1:1 a:0:1", api.ErrInvalid},
		{"ErrInvalid is before ErrLimit in a task", "a:0:1" + eleven, api.ErrInvalid},
		{"ErrDuplicate is before ErrLimit in a task", "a:1:1 a:1:1" + eleven, api.ErrDuplicate},
		{"an earlier ErrInvalid", "a:0:1 b:1:1 b:1:1", api.ErrInvalid},
		{"an earlier ErrDuplicate", "a:1:1 a:1:1 b:0:1", api.ErrDuplicate},
		{"an earlier ErrLimit", "a:1:1" + eleven + " b:0:1 b:1:1", api.ErrLimit},
		{"a later ErrInvalid is before ErrName", "a:1:1:x b:0:1", api.ErrInvalid},
		{"a later ErrDuplicate is before ErrName", "a:1:1:x a:1:1", api.ErrDuplicate},
		{"a later ErrLimit is before ErrName", "a:1:1:x b:1:1" + eleven, api.ErrLimit},
		{"a later ErrInvalid is before that of Afters that are twice", "b:1:1 a:1:1:b:b c:0:1", api.ErrInvalid},
		{"a later ErrInvalid is before ErrState", "a:1:1:a b:1:17", api.ErrInvalid},
		{"an After that is twice before a name that is not known", "b:1:1 a:1:1:b:b:x", api.ErrDuplicate},
		{"a name that is not known before an After that is twice", "b:1:1 a:1:1:x:b:b", api.ErrName},
		{"a name that is not known, twice", "a:1:1:x:x", api.ErrName},
		{"an earlier task's After that is twice", "c:1:1 a:1:1:c:c b:1:1:x", api.ErrDuplicate},
		{"an earlier task's name that is not known", "c:1:1 a:1:1:x b:1:1:c:c", api.ErrName},
		{"ErrName is before ErrState", "a:1:1:a b:1:1:x", api.ErrName},
		{"ErrDuplicate is before ErrState", "a:1:1:a:a", api.ErrDuplicate},
		{"a later ErrDuplicate is before ErrState", "a:1:1:b b:1:1:a:a", api.ErrDuplicate},
		{"too many tasks", strings.Repeat("a:0:0:x:x ", 21), api.ErrLimit},
	} {
		if e := job.Check(tasks(c.l)); e != c.want {
			t.Errorf("%s: error %d, want %d", c.name, e, c.want)
		}
	}
}

// wantError checks that all calls that have a plan and an Errno return Check's error, and nothing else; the other arguments may be wrong too.
func wantError(t *testing.T, l []api.Task, name string, n int, days []int, wantE api.Errno) {
	t.Helper()
	for what, call := range map[string]func() ([]int, api.Errno){
		"Order":    func() ([]int, api.Errno) { return job.Order(l) },
		"Earliest": func() ([]int, api.Errno) { return job.Earliest(l) },
		"Latest":   func() ([]int, api.Errno) { return job.Latest(l) },
		"Chain":    func() ([]int, api.Errno) { return job.Chain(l) },
		"Waits":    func() ([]int, api.Errno) { return job.Waits(l, name) },
		"Listed":   func() ([]int, api.Errno) { return job.Listed(l, n) },
	} {
		got, e := call()
		wantList(t, what, got, e, nil, wantE)
	}
	for what, call := range map[string]func() (int, api.Errno){
		"Length": func() (int, api.Errno) { return job.Length(l) },
		"Slack":  func() (int, api.Errno) { return job.Slack(l, name) },
		"Ends":   func() (int, api.Errno) { return job.Ends(l, days) },
		"Men":    func() (int, api.Errno) { return job.Men(l, days, n) },
		"Bound":  func() (int, api.Errno) { return job.Bound(l, n) },
	} {
		got, e := call()
		want(t, what, got, e, 0, wantE)
	}
	delayed, e := job.Delayed(l, name, n)
	wantTasks(t, "Delayed", delayed, e, nil, wantE)
	done, e := job.Done(l, name)
	wantTasks(t, "Done", done, e, nil, wantE)
}

// 9.1 and 9.2: plans that are not valid.
func TestInvalidPlans(t *testing.T) {
	for _, x := range wrongPlans() {
		for _, name := range []string{"a", "b", "t0", "none", ""} {
			wantError(t, x.l, name, 5, make([]int, len(x.l)), x.e)
			wantError(t, x.l, name, -1, nil, x.e)
		}
		if job.IsChain(x.l, []int{0}) || job.IsChain(x.l, []int{0, 1}) || job.IsChain(x.l, nil) {
			t.Errorf("a chain of %v", x.l)
		}
		if job.Right(x.l, 100, make([]int, len(x.l))) || job.Right(x.l, 100, []int{0, 10}) || job.Right(x.l, 100, []int{10, 0}) {
			t.Errorf("a right schedule of %v", x.l)
		}
		if s := job.Format(x.l); s != "" {
			t.Errorf("Format(%v) = %q", x.l, s)
		}
	}
}

// 9.1 and 9.2: names that no task has; ErrName is before ErrRange and what is named behind it.
func TestUnknownNames(t *testing.T) {
	for _, l := range [][]api.Task{example(), house(), alike(1, 1_000, 1)} {
		for _, name := range append([]string{"d", "t", "fenc", "gates", "t00"}, notNames...) {
			slack, e := job.Slack(l, name)
			want(t, "Slack", slack, e, 0, api.ErrName)
			waits, e := job.Waits(l, name)
			wantList(t, "Waits", waits, e, nil, api.ErrName)
			for _, by := range wild {
				delayed, e := job.Delayed(l, name, by)
				wantTasks(t, "Delayed", delayed, e, nil, api.ErrName)
			}
			done, e := job.Done(l, name)
			wantTasks(t, "Done", done, e, nil, api.ErrName)
		}
	}
}
