package job_test

import (
	"slices"
	"testing"

	"steeplejack/api"
	"steeplejack/job"
)

// 9.2: Delayed.
func TestDelayed(t *testing.T) {
	for i, x := range house() {
		for _, by := range []int{0, 1, 500, 1_000 - x.Days} {
			changed := house()
			changed[i].Days += by
			got, e := job.Delayed(house(), x.Name, by)
			wantTasks(t, "Delayed", got, e, changed, api.OK)
		}
		for _, by := range []int{1_001 - x.Days, 1_000} {
			got, e := job.Delayed(house(), x.Name, by)
			wantTasks(t, "Delayed", got, e, nil, api.ErrLimit)
		}
		for _, by := range wild {
			if by < 0 || by > 1_000 {
				got, e := job.Delayed(house(), x.Name, by)
				wantTasks(t, "Delayed", got, e, nil, api.ErrRange)
			}
		}
	}
	most := tasks("a:1000:1")
	got, e := job.Delayed(most, "a", 0)
	wantTasks(t, "Delayed by nothing", got, e, most, api.OK)
	got, e = job.Delayed(most, "a", 1)
	wantTasks(t, "Delayed by a day", got, e, nil, api.ErrLimit)
	got, e = job.Delayed(tasks("a:1:1"), "a", 999)
	wantTasks(t, "Delayed by the most", got, e, most, api.OK)
	got, e = job.Delayed(tasks("a:1:1"), "a", 1_000)
	wantTasks(t, "Delayed by more", got, e, nil, api.ErrLimit)
	got, e = job.Delayed(tasks("a:1:1"), "a", 1_001)
	wantTasks(t, "Delayed by more than there may be", got, e, nil, api.ErrRange)
}

// 9.2: Done.
func TestDone(t *testing.T) {
	for _, c := range []struct {
		l, name, want string
		e             api.Errno
	}{
		{"a:2:1 b:3:1:a c:1:1:a", "a", "b:3:1 c:1:1", api.OK},
		{"a:2:1 b:3:1:a c:1:1:a", "b", "", api.ErrState},
		{"a:2:1", "a", "", api.ErrNone},
		{"a:2:1 b:3:1", "b", "a:2:1", api.OK},
		{"b:3:1:a a:2:1", "a", "b:3:1", api.OK},
		{"b:3:1:a a:2:1", "b", "", api.ErrState},
		{"d:1:1:a:b:c a:1:1 b:2:2 c:3:3:b", "b", "d:1:1:a:c a:1:1 c:3:3", api.OK},
		{"d:1:1:a:b:c a:1:1 b:2:2 c:3:3:b", "a", "d:1:1:b:c b:2:2 c:3:3:b", api.OK},
		{"d:1:1:a:b:c a:1:1 b:2:2 c:3:3", "c", "d:1:1:a:b a:1:1 b:2:2", api.OK},
		{"a:1:1 aa:1:1 b:1:1:aa:a", "a", "aa:1:1 b:1:1:aa", api.OK},
	} {
		got, e := job.Done(tasks(c.l), c.name)
		wantTasks(t, "Done of "+c.name, got, e, tasks(c.want), c.e)
	}
	got, e := job.Done(alike(20, 5, 5), "t19")
	wantTasks(t, "Done of the last", got, e, alike(19, 5, 5), api.OK)
	r := random()
	for range 500 {
		l := randomPlan(r)
		for i, x := range l {
			want, wantE := slices.Delete(copied(l), i, i+1), api.OK
			for j, y := range want {
				want[j].After = slices.DeleteFunc(y.After, func(name string) bool { return name == x.Name })
			}
			if len(x.After) > 0 {
				want, wantE = nil, api.ErrState
			} else if len(l) == 1 {
				want, wantE = nil, api.ErrNone
			}
			got, e := job.Done(l, x.Name)
			wantTasks(t, "Done", got, e, want, wantE)
		}
	}
}

// P9.4: a task that is delayed by at most its slack makes the plan no longer, and by more it does; Done of no task makes it longer.
func TestLengthOfChanged(t *testing.T) {
	r := random()
	delays, dones := 0, 0
	for range 1000 {
		l := randomTasks(r, 1+r.IntN(20), 1+r.IntN(40), 16)
		length := mustLength(t, l)
		for _, x := range l {
			slack, e := job.Slack(l, x.Name)
			if e != api.OK {
				t.Fatalf("Slack of %s in %v: error %d", x.Name, l, e)
			}
			for by, want := range map[int]int{slack: length, slack / 2: length, slack + 1: length + 1, slack + 7: length + 7} {
				changed, e := job.Delayed(l, x.Name, by)
				if e != api.OK || mustLength(t, changed) != want {
					t.Fatalf("Delayed(%v, %s, %d) = %v, error %d", l, x.Name, by, changed, e)
				}
				delays++
			}
			if left, e := job.Done(l, x.Name); e == api.OK {
				if mustLength(t, left) > length {
					t.Fatalf("Done(%v, %s) = %v", l, x.Name, left)
				}
				dones++
			}
		}
	}
	if delays < 10_000 || dones < 1_000 {
		t.Errorf("%d tasks are delayed, %d are done", delays, dones)
	}
}
