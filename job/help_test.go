package job_test

import (
	"math"
	"math/rand/v2"
	"slices"
	"strconv"
	"strings"
	"testing"

	"steeplejack/api"
	"steeplejack/job"
)

func task(name string, days, men int, after ...string) api.Task {
	return api.Task{Name: name, Days: days, Men: men, After: after}
}

// tasks makes tasks of words NAME:DAYS:MEN, each followed by :AFTER for its Afters.
func tasks(words string) []api.Task {
	var l []api.Task
	for w := range strings.FieldsSeq(words) {
		parts := strings.Split(w, ":")
		l = append(l, task(parts[0], number(parts[1]), number(parts[2]), parts[3:]...))
	}
	return l
}

func number(word string) int {
	n, err := strconv.Atoi(word)
	if err != nil {
		panic(err)
	}
	return n
}

// example is the plan of the chapter's example, whose tasks take a man each.
func example() []api.Task { return tasks("a:2:1 b:3:1:a c:1:1:a") }

// house is a plan whose list is not in the order of its tasks.
func house() []api.Task {
	return tasks("paint:2:3:wall:roof roof:4:2:wall wall:5:4:dig dig:3:2 fence:6:1 gate:1:1:fence:dig")
}

// alike makes n tasks with names of their own that are alike otherwise.
func alike(n, days, men int) []api.Task {
	var l []api.Task
	for i := range n {
		l = append(l, task("t"+strconv.Itoa(i), days, men))
	}
	return l
}

// row makes n tasks that each wait for the one before.
func row(n, days, men int) []api.Task {
	l := alike(n, days, men)
	for i := 1; i < n; i++ {
		l[i].After = []string{l[i-1].Name}
	}
	return l
}

// dense makes the most tasks, of which each waits for as many before it as it may.
func dense() []api.Task {
	l := alike(20, 7, 5)
	for i := range l {
		for j := max(0, i-10); j < i; j++ {
			l[i].After = append(l[i].After, l[j].Name)
		}
	}
	return l
}

// copied makes tasks that share no memory with others.
func copied(l []api.Task) []api.Task {
	c := slices.Clone(l)
	for i := range c {
		c[i].After = slices.Clone(c[i].After)
	}
	return c
}

func sameTask(a, b api.Task) bool {
	return a.Name == b.Name && a.Days == b.Days && a.Men == b.Men && slices.Equal(a.After, b.After)
}

func sameTasks(a, b []api.Task) bool { return slices.EqualFunc(a, b, sameTask) }

// wild is numbers at which reckoning without care goes wrong.
var wild = []int{math.MinInt, math.MinInt + 1, -2, -1, 0, 1, 2, 16, 17, 100, 101, 1_000, 1_001, 100_000, 100_001, 200_000, 200_001, 1_000_000, 1_000_001, math.MaxInt - 1, math.MaxInt}

// names and notNames may be names of tasks, or not.
var (
	names    = []string{"a", "z", "az", "a0", "z9", "a_", "b__9", "q1w2e3r4t5y6u7i8", "abcdefghijklmnop"}
	notNames = []string{
		"", " ", "_", "0", "9a", "_a", "A", "Ab", "aB", "a-", "-a", "a b", "a ", " a", "a\n", "a\t", "a.", "a:", "a/", "a`", "`", "{", "a{", "a@", "a[", "a\x00", "\x00", "\xff", "a\xff",
		"é", "aé", "ａ", "а", "a\u0301", "a١", "abcdefghijklmnopq", strings.Repeat("a", 256),
	}
)

// wrongPlan is a plan that is not valid, and why.
type wrongPlan struct {
	l []api.Task
	e api.Errno
}

// wrongPlans is plans that are not valid, with a and b among their tasks where there are any.
func wrongPlans() []wrongPlan {
	wrong := []wrongPlan{
		{nil, api.ErrNone},
		{alike(21, 1, 1), api.ErrLimit},
		{tasks("a:0:1 b:1:1"), api.ErrInvalid},
		{tasks("a:1:1 b:1:17"), api.ErrInvalid},
		{tasks("a:1:1 b:1:1 a:1:1"), api.ErrDuplicate},
		{tasks("a:1:1:b:b:b:b:b:b:b:b:b:b:b b:1:1"), api.ErrLimit},
		{tasks("a:1:1 b:1:1:c"), api.ErrName},
		{tasks("a:1:1 b:1:1:a:a"), api.ErrDuplicate},
		{tasks("a:1:1 b:1:1:b"), api.ErrState},
		{tasks("a:1:1:b b:1:1:a"), api.ErrState},
	}
	return wrong
}

// random is the same numbers in each run.
func random() *rand.Rand { return rand.New(rand.NewPCG(9, 26)) }

// randomTasks makes n tasks of at most so many days and men, in any order of the list.
func randomTasks(r *rand.Rand, n, days, men int) []api.Task {
	l := alike(n, 1, 1)
	first := r.Perm(n) // in this order no task waits for a later one
	links := r.IntN(4)
	for k, i := range first {
		l[i].Days, l[i].Men = 1+r.IntN(days), 1+r.IntN(men)
		for range min(links, k) {
			name := l[first[r.IntN(k)]].Name
			if !slices.Contains(l[i].After, name) {
				l[i].After = append(l[i].After, name)
			}
		}
	}
	return l
}

// indexOf is the index of the task with a name.
func indexOf(l []api.Task, name string) int {
	return slices.IndexFunc(l, func(x api.Task) bool { return x.Name == name })
}

// slowChains is all chains, in the order of their indexes.
func slowChains(l []api.Task) [][]int {
	var chains [][]int
	var extend func(chain []int)
	extend = func(chain []int) {
		last := chain[len(chain)-1]
		chains = append(chains, slices.Clone(chain))
		for i, x := range l {
			if slices.Contains(x.After, l[last].Name) {
				extend(append(chain, i))
			}
		}
	}
	for i := range l {
		extend([]int{i})
	}
	return chains
}

// daysOf is the sum of the Days of some tasks.
func daysOf(l []api.Task, indexes []int) int {
	sum := 0
	for _, i := range indexes {
		sum += l[i].Days
	}
	return sum
}

// begins is the day on which a task begins, if all begin as early as can be, but for one that waits for a day.
func begins(l []api.Task, i, held, day int) int {
	begin := 0
	if i == held {
		begin = day
	}
	for _, name := range l[i].After {
		a := indexOf(l, name)
		begin = max(begin, begins(l, a, held, day)+l[a].Days)
	}
	return begin
}

// lengthHeld is how long a plan is if one of its tasks waits for a day.
func lengthHeld(l []api.Task, held, day int) int {
	length := 0
	for i, x := range l {
		length = max(length, begins(l, i, held, day)+x.Days)
	}
	return length
}

// slowMen is how many men some tasks take on a day.
func slowMen(l []api.Task, days []int, day int) int {
	men := 0
	for i, x := range l {
		for n := range x.Days {
			if days[i]+n == day {
				men += x.Men
			}
		}
	}
	return men
}

// slowRight asks each task and each day.
func slowRight(l []api.Task, men int, days []int) bool {
	last := 0
	for i, x := range l {
		last = max(last, days[i]+x.Days)
		for _, name := range x.After {
			if a := indexOf(l, name); days[i] < days[a]+l[a].Days {
				return false
			}
		}
	}
	for day := range last {
		if slowMen(l, days, day) > men {
			return false
		}
	}
	return true
}

// want checks a result and its error; behind an error the result is its zero value.
func want[T comparable](t *testing.T, what string, got T, e api.Errno, want T, wantE api.Errno) {
	t.Helper()
	if got != want || e != wantE {
		t.Errorf("%s = %v, error %d, want %v, error %d", what, got, e, want, wantE)
	}
}

func wantList(t *testing.T, what string, got []int, e api.Errno, want []int, wantE api.Errno) {
	t.Helper()
	if !slices.Equal(got, want) || e != wantE {
		t.Errorf("%s = %v, error %d, want %v, error %d", what, got, e, want, wantE)
	}
}

func wantTasks(t *testing.T, what string, got []api.Task, e api.Errno, want []api.Task, wantE api.Errno) {
	t.Helper()
	if !sameTasks(got, want) || e != wantE {
		t.Errorf("%s = %v, error %d, want %v, error %d", what, got, e, want, wantE)
	}
}

// The calls below are those whose errors a test does not expect.

func mustLength(t *testing.T, l []api.Task) int {
	t.Helper()
	n, e := job.Length(l)
	if e != api.OK {
		t.Fatalf("Length(%v): error %d", l, e)
	}
	return n
}

func mustDays(t *testing.T, call func(l []api.Task) ([]int, api.Errno), l []api.Task) []int {
	t.Helper()
	days, e := call(l)
	if e != api.OK || len(days) == 0 {
		t.Fatalf("of %v: %v, error %d", l, days, e)
	}
	return days
}

func mustListed(t *testing.T, l []api.Task, men int) []int {
	t.Helper()
	days, e := job.Listed(l, men)
	if e != api.OK {
		t.Fatalf("Listed(%v, %d): error %d", l, men, e)
	}
	return days
}

func mustEnd(t *testing.T, l []api.Task, days []int) int {
	t.Helper()
	end, e := job.Ends(l, days)
	if e != api.OK {
		t.Fatalf("Ends(%v, %v): error %d", l, days, e)
	}
	return end
}

func mustPrice(t *testing.T, r api.Rate, height int) int {
	t.Helper()
	price, e := job.Price(r, height)
	if e != api.OK {
		t.Fatalf("Price(%v, %d): error %d", r, height, e)
	}
	return price
}
