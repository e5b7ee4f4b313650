package job_test

import (
	"math/rand/v2"
	"slices"
	"testing"

	"steeplejack/api"
	"steeplejack/job"
)

// upTo is the numbers from 0 to n - 1.
func upTo(n int) []int {
	var l []int
	for i := range n {
		l = append(l, i)
	}
	return l
}

// 9.1: Order, Earliest, Latest, Length and Chain.
func TestPlans(t *testing.T) {
	for _, c := range []struct {
		name                           string
		l                              []api.Task
		order, earliest, latest, chain []int
		length                         int
	}{
		{"the example", example(), []int{0, 1, 2}, []int{0, 2, 2}, []int{0, 2, 4}, []int{0, 1}, 5},
		{"the house", house(), []int{3, 2, 1, 0, 4, 5}, []int{12, 8, 3, 0, 0, 6}, []int{12, 8, 3, 0, 7, 13}, []int{3, 2, 1, 0}, 14},
		{"one task", tasks("a:7:2"), []int{0}, []int{0}, []int{0}, []int{0}, 7},
		{"backwards", tasks("a:1:1:b b:2:1:c c:3:1"), []int{2, 1, 0}, []int{5, 3, 0}, []int{5, 3, 0}, []int{2, 1, 0}, 6},
		{"no Afters", tasks("a:1:1 b:3:1 c:2:1"), []int{0, 1, 2}, []int{0, 0, 0}, []int{2, 0, 1}, []int{1}, 3},
		{"of several single tasks the first one", alike(20, 5, 1), upTo(20), make([]int, 20), make([]int, 20), []int{0}, 5},
		{"of several chains the one that begins first", tasks("a:2:1 b:2:1 c:3:1:b d:3:1:a"), []int{0, 1, 2, 3}, []int{0, 0, 2, 2}, []int{0, 0, 2, 2}, []int{0, 3}, 5},
		{"of several chains the one that goes on first", tasks("d:3:1:b b:2:1:a a:1:1 c:2:1:a e:3:1:c"), []int{2, 1, 0, 3, 4}, []int{3, 1, 0, 1, 3}, []int{3, 1, 0, 1, 3}, []int{2, 1, 0}, 6},
		{"the one that goes on first is longer", tasks("a:1:1 b:1:1:a c:2:1:a:b d:3:1:a"), []int{0, 1, 2, 3}, []int{0, 1, 2, 1}, []int{0, 1, 2, 1}, []int{0, 1, 2}, 4},
		{"the one that goes on first is shorter", tasks("a:1:1 d:3:1:a b:1:1:a c:2:1:a:b"), []int{0, 1, 2, 3}, []int{0, 1, 1, 2}, []int{0, 1, 1, 2}, []int{0, 1}, 4},
		{"the first task begins no longest chain", tasks("a:1:1 b:2:1 c:2:1:a:b"), []int{0, 1, 2}, []int{0, 0, 2}, []int{1, 0, 2}, []int{1, 2}, 4},
		{"Days count, and not tasks", tasks("a:9:1 b:1:1 c:1:1:b d:1:1:c"), []int{0, 1, 2, 3}, []int{0, 0, 1, 2}, []int{0, 6, 7, 8}, []int{0}, 9},
		{"a task waits for the later one", tasks("a:1:1 b:5:1 c:1:1:a:b d:1:1:b:a"), []int{0, 1, 2, 3}, []int{0, 0, 5, 5}, []int{4, 0, 5, 5}, []int{1, 2}, 6},
		{"a task is ready in front of others", tasks("a:1:1:c b:1:1 c:1:1 d:1:1"), []int{1, 2, 0, 3}, []int{1, 0, 0, 0}, []int{1, 1, 0, 1}, []int{2, 0}, 2},
		{"the longest", row(20, 1_000, 1), upTo(20), multiples(20, 1_000), multiples(20, 1_000), upTo(20), 20_000},
		{"the most Afters", dense(), upTo(20), multiples(20, 7), multiples(20, 7), upTo(20), 140},
	} {
		order, e := job.Order(c.l)
		wantList(t, c.name+": Order", order, e, c.order, api.OK)
		earliest, e := job.Earliest(c.l)
		wantList(t, c.name+": Earliest", earliest, e, c.earliest, api.OK)
		latest, e := job.Latest(c.l)
		wantList(t, c.name+": Latest", latest, e, c.latest, api.OK)
		length, e := job.Length(c.l)
		want(t, c.name+": Length", length, e, c.length, api.OK)
		chain, e := job.Chain(c.l)
		wantList(t, c.name+": Chain", chain, e, c.chain, api.OK)
		for i, x := range c.l {
			slack, e := job.Slack(c.l, x.Name)
			want(t, c.name+": Slack of "+x.Name, slack, e, c.latest[i]-c.earliest[i], api.OK)
		}
	}
}

// multiples is n multiples of a number, from 0.
func multiples(n, of int) []int {
	l := upTo(n)
	for i := range l {
		l[i] *= of
	}
	return l
}

// 9.1: Waits.
func TestWaits(t *testing.T) {
	for _, c := range []struct {
		l    []api.Task
		name string
		want []int
	}{
		{example(), "a", []int{1, 2}},
		{example(), "b", nil},
		{example(), "c", nil},
		{house(), "dig", []int{0, 1, 2, 5}},
		{house(), "wall", []int{0, 1}},
		{house(), "roof", []int{0}},
		{house(), "paint", nil},
		{house(), "fence", []int{5}},
		{alike(1, 1, 1), "t0", nil},
		{row(20, 1, 1), "t0", upTo(20)[1:]},
		{row(20, 1, 1), "t18", []int{19}},
		{dense(), "t3", upTo(20)[4:]},
		{tasks("a:1:1:b b:1:1:c c:1:1"), "c", []int{0, 1}},
	} {
		got, e := job.Waits(c.l, c.name)
		wantList(t, "Waits for "+c.name, got, e, c.want, api.OK)
	}
}

// 9.1: IsChain.
func TestIsChain(t *testing.T) {
	for _, c := range []struct {
		chain []int
		want  bool
	}{
		{nil, false}, {[]int{}, false},
		{[]int{0}, true}, {[]int{5}, true}, {[]int{3, 2, 1, 0}, true}, {[]int{3, 2}, true}, {[]int{2, 1}, true}, {[]int{2, 0}, true}, {[]int{4, 5}, true}, {[]int{3, 5}, true},
		{[]int{6}, false}, {[]int{-1}, false}, {[]int{2, 3}, false}, {[]int{0, 1, 2, 3}, false}, {[]int{3, 1}, false}, {[]int{3, 0}, false}, {[]int{3, 3}, false}, {[]int{0, 0}, false}, {[]int{3, 2, 1, 0, 6}, false}, {[]int{3, 2, 1, 0, -1}, false},
		{[]int{6, 0}, false}, {[]int{-1, 3}, false}, {[]int{3, 4}, false}, {[]int{4, 5, 0}, false}, {[]int{5, 4, 5}, false}, {[]int{3, 2, 2, 1}, false}, {make([]int, 1<<16), false},
	} {
		if got := job.IsChain(house(), c.chain); got != c.want {
			t.Errorf("IsChain(%v) = %v", c.chain, got)
		}
	}
	for _, n := range wild {
		if n < 0 || n > 5 {
			for _, chain := range [][]int{{n}, {3, n}, {n, 2}, {3, 2, n}} {
				if job.IsChain(house(), chain) {
					t.Errorf("IsChain(%v)", chain)
				}
			}
		}
	}
}

// 9.1: IsChain of all short lists.
func TestAllChains(t *testing.T) {
	r := random()
	for range 200 {
		l := randomTasks(r, 1+r.IntN(5), 3, 1)
		chains := slowChains(l)
		for n := range 6 * 6 * 6 {
			list := []int{n % 6, n / 6 % 6, n / 36}[:1+r.IntN(3)]
			is := slices.ContainsFunc(chains, func(c []int) bool { return slices.Equal(c, list) })
			if job.IsChain(l, list) != is {
				t.Fatalf("IsChain(%v, %v) is not %v", l, list, is)
			}
		}
	}
}

// slowOrder is the first one of all orders in which each task comes after all its Afters.
func slowOrder(l []api.Task) []int {
	var found []int
	var extend func(order []int) bool
	extend = func(order []int) bool {
		if len(order) == len(l) {
			found = order
			return true
		}
		for i, x := range l {
			late := slices.ContainsFunc(x.After, func(name string) bool { return !slices.Contains(order, indexOf(l, name)) })
			if !slices.Contains(order, i) && !late && extend(append(slices.Clone(order), i)) {
				return true
			}
		}
		return false
	}
	extend(nil)
	return found
}

// slowWaits is the tasks that stand behind a task in some chain.
func slowWaits(l []api.Task, chains [][]int, i int) []int {
	var waits []int
	for j := range l {
		if slices.ContainsFunc(chains, func(c []int) bool { return len(c) > 1 && c[0] == i && c[len(c)-1] == j }) {
			waits = append(waits, j)
		}
	}
	return waits
}

// randomPlan is a plan of few tasks, in which many chains are equally long.
func randomPlan(r *rand.Rand) []api.Task { return randomTasks(r, 1+r.IntN(8), 1+r.IntN(4), 4) }

// 9.1 and P9.2: all of random plans, as the chapter words them.
func TestPlansAgainstWords(t *testing.T) {
	r := random()
	for range 1500 {
		l := randomPlan(r)
		chains := slowChains(l)
		longest := slices.MaxFunc(chains, func(a, b []int) int { return daysOf(l, a) - daysOf(l, b) })
		length := daysOf(l, longest)
		got, e := job.Order(l)
		wantList(t, "Order", got, e, slowOrder(l), api.OK)
		n, e := job.Length(l)
		want(t, "Length", n, e, length, api.OK)
		got, e = job.Chain(l)
		wantList(t, "Chain", got, e, longest, api.OK) // MaxFunc takes the first one
		earliest, latest := mustDays(t, job.Earliest, l), mustDays(t, job.Latest, l)
		for i, x := range l {
			got, e := job.Waits(l, x.Name)
			wantList(t, "Waits", got, e, slowWaits(l, chains, i), api.OK)
			want(t, "Earliest", earliest[i], api.OK, begins(l, i, i, 0), api.OK)
			if lengthHeld(l, i, latest[i]) != length || lengthHeld(l, i, latest[i]+1) == length {
				t.Errorf("the latest day of %s is not %d", x.Name, latest[i])
			}
			slack, e := job.Slack(l, x.Name)
			want(t, "Slack", slack, e, latest[i]-earliest[i], api.OK)
			critical := slices.ContainsFunc(chains, func(c []int) bool { return daysOf(l, c) == length && slices.Contains(c, i) })
			if (slack == 0) != critical {
				t.Errorf("the slack of %s is %d", x.Name, slack)
			}
		}
		if t.Failed() {
			t.Fatalf("of %v", l)
		}
	}
}

// P9.2: the length is the sum of the Days of Chain, and of no chain greater, in large plans.
func TestLengthOfLargePlans(t *testing.T) {
	r := random()
	for range 300 {
		l := randomTasks(r, 20, 1_000, 16)
		length := mustLength(t, l)
		chain := mustDays(t, job.Chain, l)
		if !job.IsChain(l, chain) || daysOf(l, chain) != length {
			t.Fatalf("Chain(%v) = %v, the length is %d", l, chain, length)
		}
		for _, c := range slowChains(l) {
			if daysOf(l, c) > length {
				t.Fatalf("the chain %v of %v is longer than %d", c, l, length)
			}
		}
	}
}
