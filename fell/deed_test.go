package fell_test

import (
	"iter"
	"math/rand/v2"
	"slices"
	"testing"

	"steeplejack/api"
	"steeplejack/fell"
)

// notDeeds is deeds of three props that are out of range.
func notDeeds() [][]int {
	return [][]int{{6}, {7}, {-1}, {-2}, {0, 6}, {0, 0, -1}, {1, 6}, make([]int, 101), {1 << 62}, {-1 << 63}, {1<<63 - 1}}
}

// toAndFro is n deeds that take the prop i away and put it back.
func toAndFro(i, n int) []int { return slices.Repeat([]int{2 * i, 2*i + 1}, (n+1)/2)[:n] }

// 6.1: After.
func TestAfter(t *testing.T) {
	for _, c := range []struct {
		name  string
		l     []api.Prop
		deeds []int
		want  []int
		e     api.Errno
	}{
		{"no deeds", example(), nil, []int{0, 1, 2}, api.OK},
		{"no deeds of no props", nil, nil, nil, api.OK},
		{"one taken away", example(), []int{2}, []int{0, 2}, api.OK},
		{"all taken away", example(), []int{2, 4, 0}, nil, api.OK},
		{"put back", example(), []int{4, 0, 1}, []int{0, 1}, api.OK},
		{"all put back", example(), []int{4, 0, 2, 5, 3, 1}, []int{0, 1, 2}, api.OK},
		{"taken away again", example(), []int{4, 5, 4}, []int{0, 1}, api.OK},
		{"taken away twice", example(), []int{2, 2}, nil, api.ErrState},
		{"put back before", example(), []int{3}, nil, api.ErrState},
		{"put back twice", example(), []int{2, 3, 3}, nil, api.ErrState},
		{"another put back", example(), []int{2, 1, 4}, nil, api.ErrState},
		{"the last of the most", row(24), []int{46, 0}, []int{1, 2, 3, 4, 5, 6, 7, 8, 9, 10, 11, 12, 13, 14, 15, 16, 17, 18, 19, 20, 21, 22}, api.OK},
		{"the most deeds", example(), toAndFro(1, 100), []int{0, 1, 2}, api.OK},
		{"the most but one", example(), toAndFro(1, 99), []int{0, 2}, api.OK},
		{"too many deeds", example(), toAndFro(1, 101), nil, api.ErrRange},
		{"a deed of no prop", nil, []int{0}, nil, api.ErrRange},
		{"a deed of no prop behind one that cannot be done", example(), []int{1, 6}, nil, api.ErrRange},
	} {
		got, e := fell.After(c.l, c.deeds)
		wantList(t, c.name+": After", got, e, c.want, c.e)
	}
	for _, deeds := range notDeeds() {
		got, e := fell.After(example(), deeds)
		wantList(t, "After", got, e, nil, api.ErrRange)
		got, e = fell.After(make([]api.Prop, 2), deeds)
		wantList(t, "After", got, e, nil, api.ErrInvalid)
	}
	for _, l := range wrongProps() {
		got, e := fell.After(l, nil)
		wantList(t, "After", got, e, nil, api.ErrInvalid)
	}
}

// 6.1: Right and Fells.
func TestRight(t *testing.T) {
	middle := sp(5, 5) // of the square, which stands there as long as it has its middle prop or two opposite corners
	for _, c := range []struct {
		name         string
		l            []api.Prop
		weight       api.Spot
		deeds        []int
		right, fells bool
	}{
		{"no deeds", square(), middle, nil, true, false},
		{"no deeds, and it does not stand", square(), sp(-1, 0), nil, true, false},
		{"no deeds, no props", nil, sp(0, 0), nil, true, false},
		{"the example", example(), sp(2, 2), []int{0}, true, true},
		{"another prop of the example", props(0, 0, 10, 0, 0, 10, 5, 5), sp(2, 2), []int{2}, true, false},
		{"it stands after each", square(), middle, []int{0, 2, 4, 6}, true, false},
		{"it stands on two opposite corners", square(), middle, []int{8, 0, 4}, true, false},
		{"it falls with the last", square(), middle, []int{8, 0, 2}, true, true},
		{"it falls before the last", square(), middle, []int{8, 0, 2, 9}, false, false},
		{"it is put back", square(), middle, []int{8, 9, 8, 0, 1, 2, 3}, true, false},
		{"a prop is taken away twice", square(), middle, []int{0, 0}, false, false},
		{"the last cannot be done", square(), middle, []int{8, 3}, false, false},
		{"it did not stand at first", props(0, 0, 4, 0), sp(9, 9), []int{0}, true, true},
		{"it did not stand at first, nor before the last", props(0, 0, 4, 0), sp(9, 9), []int{0, 1}, false, false},
		{"the last prop", props(3, 3), sp(3, 3), []int{0}, true, true},
		{"the last prop put back", props(3, 3), sp(3, 3), []int{0, 1}, false, false},
		{"the most deeds", square(), middle, toAndFro(4, 100), true, false},
		{"too many deeds", square(), middle, toAndFro(4, 101), false, false},
		{"the most deeds, felling", props(0, 0, 3, 3, 9, 9, -3, 1), sp(3, 3), append(toAndFro(2, 98), 2, 0), true, true},
		{"too many deeds, felling", props(0, 0, 3, 3, 9, 9, -3, 1), sp(3, 3), append(toAndFro(2, 98), 6, 2, 0), false, false},
	} {
		if right, fells := fell.Right(c.l, c.weight, c.deeds), fell.Fells(c.l, c.weight, c.deeds); right != c.right || fells != c.fells {
			t.Errorf("%s: right %v, fells %v", c.name, right, fells)
		}
	}
}

// 6.1: Right and Fells of wrong arguments.
func TestRightErrors(t *testing.T) {
	check := func(l []api.Prop, weight api.Spot, deeds []int) {
		t.Helper()
		if fell.Right(l, weight, deeds) || fell.Fells(l, weight, deeds) {
			t.Errorf("%v are right for %v, %v", deeds, l, weight)
		}
	}
	for _, deeds := range notDeeds() {
		check(example(), sp(2, 2), deeds)
		check(example(), sp(99, 99), deeds)
	}
	for _, s := range notSpots() {
		check(example(), s, nil)
		check(example(), s, []int{0})
	}
	for _, l := range wrongProps() {
		check(l, sp(0, 0), nil)
		check(l, sp(9_000, 9_000), []int{0})
	}
	check(nil, sp(0, 0), []int{0})
	check(nil, sp(0, 0), []int{1})
}

// slowRight reports whether deeds are right, and fell a stack, as the chapter words it.
func slowRight(l []api.Prop, weight api.Spot, deeds []int) (right, fells bool) {
	left, done, stood := slowAfter(l, weight, deeds)
	var there []api.Prop
	for _, i := range left {
		there = append(there, l[i])
	}
	right = done && stood
	return right, right && len(deeds) > 0 && !slowStands(there, weight)
}

// randomDeeds makes deeds of n props, most of which can be done.
func randomDeeds(r *rand.Rand, n int) []int {
	var deeds []int
	gone := make([]bool, n)
	for range r.IntN(5) {
		i := r.IntN(n)
		d := 2 * i
		if gone[i] != (r.IntN(12) == 0) {
			d++
		}
		gone[i] = d%2 == 1
		deeds = append(deeds, d)
	}
	return deeds
}

// 6.1: After, Right and Fells, as the chapter words them.
func TestDeeds(t *testing.T) {
	r := random()
	var wrong, felling int
	for range 5000 {
		most := 1 + r.IntN(3)
		l, weight := randomProps(r, 1+r.IntN(12), most), randomSpot(r, most-1)
		deeds := randomDeeds(r, len(l))
		right, fells := slowRight(l, weight, deeds)
		if fell.Right(l, weight, deeds) != right || fell.Fells(l, weight, deeds) != fells {
			t.Fatalf("Right and Fells(%v, %v, %v), want %v and %v", l, weight, deeds, right, fells)
		}
		left, done, _ := slowAfter(l, weight, deeds)
		got, e := fell.After(l, deeds)
		switch {
		case !done:
			wrong++
			wantList(t, "After", got, e, nil, api.ErrState)
		case len(deeds) > 0:
			wantList(t, "After", got, e, left, api.OK)
		}
		if fells {
			felling++
		}
	}
	if wrong < 500 || wrong > 4500 || felling < 500 {
		t.Errorf("%d of 5000 are wrong, %d fell", wrong, felling)
	}
}

// 6.1: Needed.
func TestNeeded(t *testing.T) {
	for _, c := range []struct {
		name   string
		l      []api.Prop
		weight api.Spot
		want   []int
	}{
		{"the example", example(), sp(2, 2), []int{0, 1, 2}},
		{"on a side", example(), sp(5, 5), []int{1, 2}},
		{"on a corner", example(), sp(0, 10), []int{2}},
		{"on a prop in the middle", square(), sp(5, 5), nil},
		{"beside it", square(), sp(5, 3), []int{0, 1}},
		{"near a corner", square(), sp(1, 2), []int{0, 3}},
		{"on a side beside the middle", square(), sp(3, 10), []int{2, 3}},
		{"on one prop", props(3, 4), sp(3, 4), []int{0}},
		{"between two", props(0, 0, 6, 3), sp(2, 1), []int{0, 1}},
		{"on one of two", props(0, 0, 6, 3), sp(6, 3), []int{1}},
		{"three on a line", props(0, 0, 9, 0, 5, 0), sp(7, 0), []int{1}},
	} {
		got, e := fell.Needed(c.l, c.weight)
		wantList(t, c.name+": Needed", got, e, c.want, api.OK)
	}
	for _, c := range []struct {
		l      []api.Prop
		weight api.Spot
		e      api.Errno
	}{
		{example(), sp(6, 5), api.ErrState},
		{nil, sp(0, 0), api.ErrState},
		{nil, sp(10_001, 0), api.ErrRange},
		{example(), sp(0, -10_001), api.ErrRange},
		{make([]api.Prop, 2), sp(0, -10_001), api.ErrInvalid},
		{row(25), sp(0, 1), api.ErrInvalid},
	} {
		got, e := fell.Needed(c.l, c.weight)
		wantList(t, "Needed", got, e, nil, c.e)
	}
	r := random()
	for range 1000 {
		l, weight := randomProps(r, 1+r.IntN(12), 3), randomSpot(r, 2)
		if !slowStands(l, weight) {
			continue
		}
		var needed []int
		for i := range l {
			if !slowStands(slices.Concat(l[:i], l[i+1:]), weight) {
				needed = append(needed, i)
			}
		}
		got, e := fell.Needed(l, weight)
		wantList(t, "Needed", got, e, needed, api.OK)
	}
}

// 6.2: Plan.
func TestPlan(t *testing.T) {
	for _, c := range []struct {
		name       string
		l          []api.Prop
		weight, to api.Spot
		want       []int
	}{
		{"the example", example(), sp(2, 2), sp(0, 0), []int{0}},
		{"another way", example(), sp(2, 2), sp(9, 2), []int{2}},
		{"another prop", example(), sp(2, 2), sp(2, 9), []int{4}},
		{"the first of several", example(), sp(2, 2), sp(2, 0), []int{0}},
		{"a prop in the middle first", square(), sp(5, 5), sp(9, 5), []int{2, 4, 8}},
		{"up", square(), sp(5, 5), sp(5, 6), []int{4, 6, 8}},
		{"down", square(), sp(5, 5), sp(5, 4), []int{0, 2, 8}},
		{"aslant", square(), sp(5, 5), sp(4, 4), []int{0, 2, 8}},
		{"not in the order of the numbers", props(5, -1, -5, 1, 5, 1), sp(0, 0), sp(9, 0), []int{4, 0}},
		{"the most props", append(row(11), props(5, 10)...), sp(3, 5), sp(3, 10), []int{22}},
	} {
		got, e := fell.Plan(c.l, c.weight, c.to)
		wantList(t, c.name+": Plan", got, e, c.want, api.OK)
	}
}

// 6.2: Plan of what does not stand, has too many props, cannot be felled that way, or is out of range.
func TestPlanErrors(t *testing.T) {
	for _, c := range []struct {
		name       string
		l          []api.Prop
		weight, to api.Spot
		want       api.Errno
	}{
		{"no props", nil, sp(0, 0), sp(9, 9), api.ErrState},
		{"it does not stand", example(), sp(9, 9), sp(99, 99), api.ErrState},
		{"it does not stand on too many", row(13), sp(3, 1), sp(3, 9), api.ErrState},
		{"too many", row(13), sp(3, 0), sp(9, 0), api.ErrLimit},
		{"the most too many", row(24), sp(3, 0), sp(9, 0), api.ErrLimit},
		{"too many, and no way", row(13), sp(3, 0), sp(3, 0), api.ErrLimit},
		{"one prop", props(3, 4), sp(3, 4), sp(9, 9), api.ErrNone},
		{"on one of two", props(3, 4, 9, 9), sp(3, 4), sp(9, 9), api.ErrNone},
		{"no way", example(), sp(2, 2), sp(2, 2), api.ErrNone},
		{"across a line", row(12), sp(3, 0), sp(3, 9), api.ErrNone},
		{"away from the only prop that could stay", example(), sp(0, 0), sp(5, 5), api.ErrNone},
		{"wrong props, spots out of range", make([]api.Prop, 13), sp(10_001, 0), sp(0, 10_001), api.ErrInvalid},
	} {
		got, e := fell.Plan(c.l, c.weight, c.to)
		wantList(t, c.name+": Plan", got, e, nil, c.want)
	}
	for _, s := range notSpots() {
		for _, l := range [][]api.Prop{nil, example(), row(13)} {
			got, e := fell.Plan(l, s, sp(0, 0))
			wantList(t, "Plan", got, e, nil, api.ErrRange)
			got, e = fell.Plan(l, sp(0, 0), s)
			wantList(t, "Plan", got, e, nil, api.ErrRange)
		}
	}
	for _, l := range wrongProps() {
		got, e := fell.Plan(l, sp(0, 0), sp(9, 9))
		wantList(t, "Plan", got, e, nil, api.ErrInvalid)
	}
}

// lists yields all lists of n different props, in order.
func lists(props []int, n int) iter.Seq[[]int] {
	return func(yield func([]int) bool) {
		if n == 0 {
			yield(nil)
			return
		}
		for i, p := range props {
			for rest := range lists(slices.Concat(props[:i], props[i+1:]), n-1) {
				if !yield(append([]int{p}, rest...)) {
					return
				}
			}
		}
	}
}

// slowPlan tries all lists of deeds that take props away, the shorter ones first.
func slowPlan(l []api.Prop, weight, to api.Spot) []int {
	var all []int
	for i := range l {
		all = append(all, i)
	}
	for n := range len(l) {
		for list := range lists(all, n+1) {
			var left []api.Prop
			var deeds []int
			for i, p := range l {
				if !slices.Contains(list, i) {
					left = append(left, p)
				}
			}
			for _, i := range list {
				deeds = append(deeds, 2*i)
			}
			if _, fells := slowRight(l, weight, deeds); fells && slowTowards(left, weight, to) {
				return deeds
			}
		}
	}
	return nil
}

// P6.3: Plan's deeds are the first of the fewest that fell a stack towards a spot.
func TestPlanIsFirst(t *testing.T) {
	r := random()
	var none, long, unsorted int
	for range 700 {
		most := 1 + r.IntN(3)
		l, weight, to := randomProps(r, 1+r.IntN(6), most), randomSpot(r, most-1), randomSpot(r, most)
		if !slowStands(l, weight) {
			continue
		}
		got, e := fell.Plan(l, weight, to)
		want := slowPlan(l, weight, to)
		if want == nil {
			none++
			wantList(t, "Plan", got, e, nil, api.ErrNone)
			continue
		}
		wantList(t, "Plan", got, e, want, api.OK)
		if len(want) > 2 {
			long++
		}
		if !slices.IsSorted(want) {
			unsorted++
		}
	}
	if none < 20 || long < 20 || unsorted < 20 {
		t.Errorf("%d cannot be felled, %d take more than two deeds, %d are not in the order of the numbers", none, long, unsorted)
	}
}

// P6.3: a plan for many props fells the stack towards the spot, and it stands after each deed but the last.
func TestPlanFells(t *testing.T) {
	r := random()
	planned := 0
	for range 60 {
		most := []int{5, 10_000}[r.IntN(2)]
		l, weight, to := randomProps(r, 12, most), randomSpot(r, most/2), randomSpot(r, most)
		deeds, e := fell.Plan(l, weight, to)
		if e != api.OK {
			continue
		}
		planned++
		left, _, stood := slowAfter(l, weight, deeds)
		var there []api.Prop
		for _, i := range left {
			there = append(there, l[i])
		}
		even := !slices.ContainsFunc(deeds, func(d int) bool { return d%2 == 1 })
		if !even || !stood || !slowTowards(there, weight, to) || !fell.Fells(l, weight, deeds) {
			t.Fatalf("Plan(%v, %v, %v) = %v", l, weight, to, deeds)
		}
	}
	if planned < 20 {
		t.Errorf("%d of 60 are planned", planned)
	}
}
