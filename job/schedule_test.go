package job_test

import (
	"slices"
	"testing"

	"steeplejack/api"
	"steeplejack/job"
)

// 9.2: Right.
func TestRight(t *testing.T) {
	for _, c := range []struct {
		name string
		l    []api.Task
		men  int
		days []int
		want bool
	}{
		{"the example", example(), 2, []int{0, 2, 2}, true},
		{"one after the other", example(), 1, []int{0, 2, 5}, true},
		{"the last one first", example(), 1, []int{0, 3, 2}, true},
		{"too few men", example(), 1, []int{0, 2, 2}, false},
		{"too few men on the last day of a task", example(), 1, []int{0, 2, 4}, false},
		{"a day too early", example(), 9, []int{0, 1, 2}, false},
		{"the other a day too early", example(), 9, []int{0, 2, 1}, false},
		{"later than need be", example(), 1, []int{7, 100, 9}, true},
		{"the last days", example(), 1, []int{99_990, 99_997, 100_000}, true},
		{"the last day for all that may", alike(20, 1_000, 5), 100, slices.Repeat([]int{100_000}, 20), true},
		{"a man too few for them", alike(20, 1_000, 5), 99, slices.Repeat([]int{100_000}, 20), false},
		{"one task", tasks("a:2:16"), 16, []int{0}, true},
		{"one task, a man too few", tasks("a:2:16"), 15, []int{0}, false},
		{"one task, in a pair", tasks("a:2:3 b:4:5"), 8, []int{2, 0}, true},
		{"a pair, a man too few", tasks("a:2:3 b:4:5"), 7, []int{2, 0}, false},
		{"a pair that touches", tasks("a:2:3 b:4:5"), 5, []int{4, 0}, true},
		{"a pair that touches, the other way", tasks("a:2:3 b:4:5"), 5, []int{0, 2}, true},
		{"three of which only two go on at once", tasks("a:9:3 b:4:5 c:4:5"), 8, []int{0, 0, 4}, true},
		{"three at once on a day", tasks("a:9:3 b:4:5 c:4:5"), 12, []int{0, 0, 3}, false},
		{"the house", house(), 5, []int{12, 8, 3, 0, 14, 20}, true},
		{"the house, in a hurry", house(), 5, []int{12, 8, 3, 0, 6, 12}, true},
		{"the house, the gate first", house(), 5, []int{12, 8, 3, 0, 14, 19}, false},
		{"too few days", example(), 9, []int{0, 2}, false},
		{"too many days", example(), 9, []int{0, 2, 5, 9}, false},
		{"no days", example(), 9, nil, false},
		{"many days", example(), 9, make([]int, 1<<16), false},
		{"a day below 0", tasks("a:1:1 b:1:1"), 9, []int{-1, 3}, false},
		{"a day above the last one", example(), 9, []int{0, 2, 100_001}, false},
		{"no men", example(), 0, []int{0, 2, 5}, false},
		{"men below 0", example(), -1, []int{0, 2, 5}, false},
		{"the most men", example(), 100, []int{0, 2, 2}, true},
		{"more men than there may be", example(), 101, []int{0, 2, 2}, false},
	} {
		if got := job.Right(c.l, c.men, c.days); got != c.want {
			t.Errorf("%s: Right is %v", c.name, got)
		}
	}
	for _, n := range wild {
		if got := job.Right(tasks("a:1:1"), n, []int{0}); got != (1 <= n && n <= 100) {
			t.Errorf("Right with %d men is %v", n, got)
		}
		if got := job.Right(tasks("a:1:1"), 1, []int{n}); got != (0 <= n && n <= 100_000) {
			t.Errorf("Right on the day %d is %v", n, got)
		}
	}
}

// 9.2: Right of random schedules, as the chapter words it.
func TestRightAgainstWords(t *testing.T) {
	r := random()
	rights := 0
	for range 20_000 {
		l := randomTasks(r, 1+r.IntN(4), 4, 4)
		men, days := 1+r.IntN(10), make([]int, len(l))
		for i := range days {
			days[i] = r.IntN(12)
		}
		right := slowRight(l, men, days)
		if job.Right(l, men, days) != right {
			t.Fatalf("Right(%v, %d, %v) is not %v", l, men, days, right)
		}
		if right {
			rights++
		}
	}
	if rights < 3_000 || rights > 17_000 {
		t.Errorf("%d of 20000 are right", rights)
	}
}

// 9.2: Listed, with its end and its bound.
func TestListed(t *testing.T) {
	for _, c := range []struct {
		name       string
		l          []api.Task
		men        int
		want       []int
		end, bound int
	}{
		{"the example", example(), 2, []int{0, 2, 2}, 5, 5},
		{"the example, by one man", example(), 1, []int{0, 2, 5}, 6, 6},
		{"the house", house(), 5, []int{12, 8, 3, 0, 0, 6}, 14, 14},
		{"the house, the wall waits for the man at the fence", house(), 4, []int{15, 11, 6, 0, 0, 11}, 17, 14},
		{"one task", tasks("a:7:16"), 16, []int{0}, 7, 7},
		{"rounded up", tasks("a:3:2 b:2:2"), 3, []int{0, 3}, 5, 4},
		{"the least latest day first", tasks("a:1:1 b:2:1 c:3:1"), 1, []int{5, 3, 0}, 6, 6},
		{"of the same latest day the first in the list", alike(4, 2, 1), 2, []int{0, 0, 2, 2}, 4, 4},
		{"an early latest day, though later in the list", tasks("a:1:1 b:1:1 c:9:1:b"), 1, []int{10, 0, 1}, 11, 11},
		{"one that is too large is passed over", tasks("a:4:2 b:3:2 c:1:1"), 3, []int{0, 4, 0}, 7, 5},
		{"one that takes all comes first", tasks("a:2:2 b:4:3 c:1:1"), 3, []int{4, 0, 4}, 6, 6},
		{"one for which there are men is taken", tasks("a:2:2 b:4:2 c:1:1"), 3, []int{4, 0, 0}, 6, 5},
		{"one that is passed over goes on waiting", tasks("a:3:1 b:2:2 c:1:1 d:1:1"), 2, []int{0, 3, 0, 1}, 5, 5},
		{"followers begin on the day of an end", tasks("a:2:2 b:2:2:a c:1:2:b"), 2, []int{0, 2, 4}, 5, 5},
		{"freed men are taken by others", tasks("a:2:2 b:3:2 c:1:2:b"), 2, []int{3, 0, 5}, 6, 6},
		{"freed men are taken by a follower before others", tasks("a:1:2 b:3:2 c:2:2:b"), 2, []int{5, 0, 3}, 6, 6},
		{"a follower of the same latest day comes behind another", tasks("a:2:2 b:3:2 c:2:2:b"), 2, []int{3, 0, 5}, 7, 7},
		{"all by all", alike(20, 3, 5), 100, make([]int, 20), 3, 3},
		{"all but one", alike(20, 3, 5), 99, append(make([]int, 19), 3), 6, 4},
		{"the longest", row(20, 1_000, 16), 16, multiples(20, 1_000), 20_000, 20_000},
		{"one by one", alike(20, 1_000, 16), 31, multiples(20, 1_000), 20_000, 10_323},
	} {
		got, e := job.Listed(c.l, c.men)
		wantList(t, c.name+": Listed", got, e, c.want, api.OK)
		end, e := job.Ends(c.l, c.want)
		want(t, c.name+": Ends", end, e, c.end, api.OK)
		bound, e := job.Bound(c.l, c.men)
		want(t, c.name+": Bound", bound, e, c.bound, api.OK)
	}
}

// 9.2: many tasks of the same latest days begin in the order of the list.
func TestListedOfMany(t *testing.T) {
	l, days := alike(20, 1, 1), make([]int, 20)
	for i := range l {
		// One man takes all those of two days first, whose latest day is 0.
		if i%3 == 0 {
			l[i].Days, days[i] = 2, i/3*2
		} else {
			days[i] = 7*2 + i/3*2 + i%3 - 1
		}
	}
	got, e := job.Listed(l, 1)
	wantList(t, "Listed", got, e, days, api.OK)
}

// 9.2: errors of Listed and Bound, in their order.
func TestListedErrors(t *testing.T) {
	check := func(l []api.Task, men int, wantE api.Errno) {
		t.Helper()
		days, e := job.Listed(l, men)
		wantList(t, "Listed", days, e, nil, wantE)
		bound, e := job.Bound(l, men)
		want(t, "Bound", bound, e, 0, wantE)
	}
	for _, n := range wild {
		if n < 1 || n > 100 {
			check(example(), n, api.ErrRange)
			check(tasks("a:1:16"), n, api.ErrRange)
		}
	}
	check(tasks("a:1:16"), 15, api.ErrNone)
	check(tasks("a:1:16"), 1, api.ErrNone)
	check(tasks("a:1:1 b:1:2"), 1, api.ErrNone)
	check(tasks("a:1:2 b:1:1"), 1, api.ErrNone)
	check(tasks("a:1:1 b:1:4:a c:1:2"), 3, api.ErrNone)
}

// slowListed makes the listed schedule day by day, as the chapter words it.
func slowListed(l []api.Task, men int) []int {
	latest := make([]int, len(l))
	length := lengthHeld(l, 0, 0)
	for i := range l {
		for lengthHeld(l, i, latest[i]+1) == length {
			latest[i]++
		}
	}
	const notBegun = 1_000_000
	days := slices.Repeat([]int{notBegun}, len(l))
	for day := 0; slices.Contains(days, notBegun); day++ {
		var ready []int
		for i, x := range l {
			open := slices.ContainsFunc(x.After, func(name string) bool {
				a := indexOf(l, name)
				return days[a]+l[a].Days > day
			})
			if days[i] == notBegun && !open {
				ready = append(ready, i)
			}
		}
		for len(ready) > 0 {
			k := 0
			for j, i := range ready {
				if latest[i] < latest[ready[k]] {
					k = j
				}
			}
			if i := ready[k]; slowMen(l, days, day)+l[i].Men <= men {
				days[i] = day
			}
			ready = slices.Delete(ready, k, k+1)
		}
	}
	return days
}

// 9.2 and P9.3: Listed of random plans, as the chapter words it: it is right, and ends no earlier than Bound.
func TestListedAgainstWords(t *testing.T) {
	r := random()
	later := 0
	for range 1500 {
		l, men := randomPlan(r), 4+r.IntN(6)
		days := mustListed(t, l, men)
		wantList(t, "Listed", days, api.OK, slowListed(l, men), api.OK)
		end := mustEnd(t, l, days)
		work := 0
		for _, x := range l {
			work += x.Men * x.Days
		}
		bound, e := job.Bound(l, men)
		want(t, "Bound", bound, e, max(mustLength(t, l), work/men+min(1, work%men)), api.OK)
		if !slowRight(l, men, days) || !job.Right(l, men, days) || end < bound {
			t.Errorf("it ends on the day %d, the bound is %d", end, bound)
		}
		if end > bound {
			later++
		}
		if t.Failed() {
			t.Fatalf("of %v by %d", l, men)
		}
	}
	if later < 100 {
		t.Errorf("%d of 1500 end later than Bound", later)
	}
}

// P9.3: with men enough for all tasks together the listed schedule ends with the Length, and begins each task on its earliest day.
func TestListedByAll(t *testing.T) {
	r := random()
	for range 1000 {
		l := randomTasks(r, 1+r.IntN(20), 1+r.IntN(1_000), 5)
		men := 0
		for _, x := range l {
			men += x.Men
		}
		days := mustListed(t, l, men)
		if end := mustEnd(t, l, days); end != mustLength(t, l) || !slices.Equal(days, mustDays(t, job.Earliest, l)) {
			t.Fatalf("Listed(%v, %d) = %v, which ends on the day %d", l, men, days, end)
		}
	}
}

// P9.3: large plans.
func TestListedOfLargePlans(t *testing.T) {
	r := random()
	for range 300 {
		l, men := randomTasks(r, 20, 1_000, 16), 16+r.IntN(40)
		days := mustListed(t, l, men)
		bound, e := job.Bound(l, men)
		if end := mustEnd(t, l, days); !job.Right(l, men, days) || e != api.OK || end < bound {
			t.Fatalf("Listed(%v, %d) = %v, which ends on the day %d, Bound is %d, error %d", l, men, days, end, bound, e)
		}
	}
}

// 9.2: Ends and Men, which ask nothing of Afters.
func TestEndsAndMen(t *testing.T) {
	l := house()
	days := []int{0, 1, 5, 100_000, 3, 20}
	end, e := job.Ends(l, days)
	want(t, "Ends", end, e, 100_003, api.OK)
	for day, men := range map[int]int{
		0: 3, 1: 5, 2: 2, 3: 3, 4: 3, 5: 5, 8: 5, 9: 4, 10: 0, 19: 0, 20: 1, 21: 0, 99_999: 0, 100_000: 2, 100_002: 2, 100_003: 0, 200_000: 0,
	} {
		got, e := job.Men(l, days, day)
		want(t, "Men", got, e, men, api.OK)
	}
	for _, c := range []struct {
		l    []api.Task
		days []int
		want int
	}{
		{example(), []int{0, 2, 2}, 5}, {example(), []int{0, 0, 0}, 3}, {example(), []int{9, 0, 0}, 11}, {example(), []int{0, 0, 9}, 10}, {tasks("a:1000:1"), []int{100_000}, 101_000}, {tasks("a:1:1"), []int{0}, 1},
	} {
		got, e := job.Ends(c.l, c.days)
		want(t, "Ends", got, e, c.want, api.OK)
	}
	got, e := job.Men(alike(20, 1_000, 16), slices.Repeat([]int{99_999}, 20), 100_998)
	want(t, "Men, of the most", got, e, 320, api.OK)
	r := random()
	for range 500 {
		l := randomPlan(r)
		days := make([]int, len(l))
		for i := range days {
			days[i] = r.IntN(9)
		}
		for day := range 15 {
			got, e := job.Men(l, days, day)
			want(t, "Men", got, e, slowMen(l, days, day), api.OK)
		}
	}
}

// 9.2: days that are none of a schedule, and days of which Men may not be asked.
func TestScheduleErrors(t *testing.T) {
	check := func(days []int, day int) {
		t.Helper()
		end, e := job.Ends(example(), days)
		want(t, "Ends", end, e, 0, api.ErrRange)
		men, e := job.Men(example(), days, day)
		want(t, "Men", men, e, 0, api.ErrRange)
	}
	for _, days := range [][]int{nil, {}, {0}, {0, 2}, {0, 2, 2, 5}, make([]int, 1<<16)} {
		check(days, 0)
		check(days, -1)
	}
	for _, n := range wild {
		if n < 0 || n > 100_000 {
			check([]int{n, 2, 2}, 0)
			check([]int{0, n, 2}, 0)
			check([]int{0, 2, n}, 200_001)
		}
		if n < 0 || n > 200_000 {
			men, e := job.Men(example(), []int{0, 2, 2}, n)
			want(t, "Men", men, e, 0, api.ErrRange)
		}
	}
}
