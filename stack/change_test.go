package stack_test

import (
	"math"
	"slices"
	"testing"

	"steeplejack/api"
	"steeplejack/stack"
)

func wantStack(t *testing.T, what string, got []api.Course, e api.Errno, want []api.Course) {
	t.Helper()
	if e != api.OK || !slices.Equal(got, want) {
		t.Errorf("%s: %v, error %d, want %v", what, got, e, want)
	}
}

func wantNoStack(t *testing.T, what string, got []api.Course, e, want api.Errno) {
	t.Helper()
	if e != want || len(got) != 0 {
		t.Errorf("%s: %v, error %d, want error %d", what, got, e, want)
	}
}

// 2.4: Added.
func TestAdded(t *testing.T) {
	c := crs(700, 400, 200, 800, 9, -9)[0]
	l, e := stack.Added(one(), c)
	wantStack(t, "Added", l, e, crs(1000, 500, 300, 1000, 0, 0, 700, 400, 200, 800, 9, -9))
	l, e = stack.Added(tall(59), one()[0])
	wantStack(t, "the 60th", l, e, tall(60))
	l, e = stack.Added(tall(60), one()[0])
	wantNoStack(t, "the 61st", l, e, api.ErrLimit)
	bad := crs(700, 400, 400, 800, 9, -9)[0]
	l, e = stack.Added(one(), bad)
	wantNoStack(t, "a course that is not valid", l, e, api.ErrInvalid)
	l, e = stack.Added(tall(60), bad)
	wantNoStack(t, "a course that is not valid, and too many", l, e, api.ErrInvalid)
	l, e = stack.Added(one(), api.Course{})
	wantNoStack(t, "no course", l, e, api.ErrInvalid)
	for _, w := range wrong() {
		l, e = stack.Added(w, c)
		wantNoStack(t, "a stack that is not valid", l, e, api.ErrInvalid)
	}
}

// 2.4: Cut.
func TestCut(t *testing.T) {
	for n := 1; n <= 3; n++ {
		l, e := stack.Cut(three(), n)
		wantStack(t, "Cut", l, e, three()[:n])
	}
	for _, n := range []int{0, -1, 4, math.MinInt, math.MaxInt} {
		l, e := stack.Cut(three(), n)
		wantNoStack(t, "Cut", l, e, api.ErrRange)
	}
	for _, w := range wrong() {
		for _, n := range []int{0, 1, 61} {
			l, e := stack.Cut(w, n)
			wantNoStack(t, "a stack that is not valid", l, e, api.ErrInvalid)
		}
	}
}

// P2.3: a stack that is cut has the weights and centres of its lower part alone.
func TestCutWeights(t *testing.T) {
	r := random()
	for range 60 {
		l := pile(r, 1+r.IntN(60), 5000)
		n := 1 + r.IntN(len(l))
		lower, e := stack.Cut(l, n)
		wantErrno(t, "Cut", e, api.OK)
		for bed := range n {
			w, e := stack.Weight(lower, bed)
			x, y, e2 := stack.Centre(lower, bed)
			east, north := slowCentre(l[:n], bed)
			if e != api.OK || e2 != api.OK || w != slowWeight(l[:n], bed) || !isRatio(x, east) || !isRatio(y, north) {
				t.Fatalf("bed %d of the first %d of %v: %d, %v, %v", bed, n, l, w, x, y)
			}
		}
	}
}

// 2.4: Split.
func TestSplit(t *testing.T) {
	a, b, c := three()[0:1], three()[1:2], three()[2:3]
	for _, s := range []struct {
		name       string
		course, at int
		want       []api.Course
	}{
		{"the foot", 0, 500, slices.Concat(crs(500, 900, 500, 1250, 10, -20, 1500, 900, 500, 3750, 10, -20), b, c)},
		{"the middle, rounded down", 1, 400, slices.Concat(a, crs(400, 700, 400, 800, 30, 5, 1100, 700, 400, 2200, 30, 5), c)},
		{"the middle, rounded down too", 1, 1, slices.Concat(a, crs(1, 700, 400, 2, 30, 5, 1499, 700, 400, 2998, 30, 5), c)},
		{"the top, rounded down", 2, 1199, slices.Concat(a, b, crs(1199, 600, 350, 1998, -8, 40, 1, 600, 350, 2, -8, 40))},
		{"the top, near its bed", 2, 1, slices.Concat(a, b, crs(1, 600, 350, 1, -8, 40, 1199, 600, 350, 1999, -8, 40))},
	} {
		l, e := stack.Split(three(), s.course, s.at)
		wantStack(t, s.name, l, e, s.want)
	}
	l, e := stack.Split(crs(2000, 500, 300, 1000000, 0, 0), 0, 1999)
	wantStack(t, "the heaviest", l, e, crs(1999, 500, 300, 999500, 0, 0, 1, 500, 300, 500, 0, 0))
	l, e = stack.Split(crs(2, 500, 300, 2, 0, 0), 0, 1)
	wantStack(t, "the lightest", l, e, crs(1, 500, 300, 1, 0, 0, 1, 500, 300, 1, 0, 0))
	l, e = stack.Split(tall(59), 58, 500)
	wantStack(t, "60 then", l, e, slices.Concat(tall(58), same(2, api.Course{Height: 500, Out: 500, In: 300, Weight: 500})))
}

func TestSplitErrors(t *testing.T) {
	light := crs(1000, 500, 300, 1, 0, 0)
	for _, s := range []struct {
		name       string
		l          []api.Course
		course, at int
		want       api.Errno
	}{
		{"course -1", one(), -1, 500, api.ErrRange},
		{"course too great", one(), 1, 500, api.ErrRange},
		{"the greatest course", one(), math.MaxInt, 500, api.ErrRange},
		{"at 0", one(), 0, 0, api.ErrRange},
		{"at -1", one(), 0, -1, api.ErrRange},
		{"at its height", one(), 0, 1000, api.ErrRange},
		{"at the least", one(), 0, math.MinInt, api.ErrRange},
		{"at the greatest", one(), 0, math.MaxInt, api.ErrRange},
		{"a height of 1", crs(1, 500, 300, 1000, 0, 0), 0, 1, api.ErrRange},
		{"no weight below", light, 0, 999, api.ErrState},
		{"no weight below 1 of 1000", crs(1000, 500, 300, 999, 0, 0), 0, 1, api.ErrState},
		{"too many", tall(60), 3, 500, api.ErrLimit},
		{"too many, no weight", same(60, light[0]), 3, 500, api.ErrState},
		{"too many, out of range", tall(60), 3, 1000, api.ErrRange},
		{"no weight, out of range", light, 0, 1000, api.ErrRange},
	} {
		l, e := stack.Split(s.l, s.course, s.at)
		wantNoStack(t, s.name, l, e, s.want)
	}
	for _, w := range wrong() {
		for _, at := range []int{0, 500} {
			l, e := stack.Split(w, 0, at)
			wantNoStack(t, "a stack that is not valid", l, e, api.ErrInvalid)
		}
	}
}

// P2.5: a split course changes no bed's weight, and no centre above other beds if its weight is divided exactly.
func TestSplitWeights(t *testing.T) {
	r := random()
	for range 200 {
		l := pile(r, 1+r.IntN(8), 5000)
		course := r.IntN(len(l))
		parts := 2 + r.IntN(8)
		l[course].Height, l[course].Weight = 100*parts, parts*(1+r.IntN(1000))
		at := 100 * (1 + r.IntN(parts-1))
		out, e := stack.Split(l, course, at)
		wantErrno(t, "Split", e, api.OK)
		for bed := range l {
			moved := bed
			if bed > course {
				moved++
			}
			w, _ := stack.Weight(out, moved)
			x, y, e := stack.Centre(out, moved)
			east, north := slowCentre(l, bed)
			if e != api.OK || w != slowWeight(l, bed) || !isRatio(x, east) || !isRatio(y, north) {
				t.Fatalf("Split(%v, %d, %d): bed %d: %d, %v, %v", l, course, at, moved, w, x, y)
			}
			if bed != course && out[moved] != l[bed] {
				t.Fatalf("Split(%v, %d, %d) = %v", l, course, at, out)
			}
		}
		before, _ := stack.Height(l)
		after, _ := stack.Height(out)
		if before != after || out[course].Out != l[course].Out || out[course+1].In != l[course].In {
			t.Fatalf("Split(%v, %d, %d) = %v", l, course, at, out)
		}
	}
}

// P2.5: a weight that is not divided exactly stays the same as a whole.
func TestSplitRounded(t *testing.T) {
	for at := 1; at < 7; at++ {
		l, e := stack.Split(crs(7, 500, 300, 100, 3, 4), 0, at)
		whole, _ := stack.Weight(l, 0)
		if e != api.OK || l[0].Weight != 100*at/7 || whole != 100 {
			t.Errorf("at %d: %v, error %d", at, l, e)
		}
	}
}

// 2.4: Turned.
func TestTurned(t *testing.T) {
	l := crs(1000, 500, 300, 1000, 1, 2, 1000, 500, 300, 1000, -5000, 7)
	turns := [][]api.Course{
		l,
		crs(1000, 500, 300, 1000, -2, 1, 1000, 500, 300, 1000, -7, -5000),
		crs(1000, 500, 300, 1000, -1, -2, 1000, 500, 300, 1000, 5000, -7),
		crs(1000, 500, 300, 1000, 2, -1, 1000, 500, 300, 1000, 7, 5000),
	}
	for _, c := range []struct{ quarters, want int }{{0, 0}, {1, 1}, {2, 2}, {3, 3}, {4, 0}, {7, 3}, {-1, 3}, {-2, 2}, {-3, 1}, {-4, 0}, {-5, 3}, {math.MaxInt, 3}, {math.MinInt, 0}, {math.MinInt + 1, 1}} {
		got, e := stack.Turned(l, c.quarters)
		wantStack(t, "Turned", got, e, turns[c.want])
	}
	for _, w := range wrong() {
		got, e := stack.Turned(w, 1)
		wantNoStack(t, "a stack that is not valid", got, e, api.ErrInvalid)
	}
}

// 2.4: Shifted.
func TestShifted(t *testing.T) {
	l := crs(1000, 500, 300, 1000, 1, 2, 900, 400, 200, 800, -5000, 7)
	for _, c := range []struct {
		name        string
		east, north int
		want        []api.Course
	}{
		{"by nothing", 0, 0, l},
		{"by some", 4, -9, crs(1000, 500, 300, 1000, 5, -7, 900, 400, 200, 800, -4996, -2)},
		{"as far as can be", 4999, 4993, crs(1000, 500, 300, 1000, 5000, 4995, 900, 400, 200, 800, -1, 5000)},
	} {
		got, e := stack.Shifted(l, c.east, c.north)
		wantStack(t, c.name, got, e, c.want)
	}
	got, e := stack.Shifted(crs(1000, 500, 300, 1000, -5000, 5000), 10000, -10000)
	wantStack(t, "from end to end", got, e, crs(1000, 500, 300, 1000, 5000, -5000))
	for _, c := range []struct {
		name        string
		east, north int
		want        api.Errno
	}{
		{"east too great", 10001, 0, api.ErrRange},
		{"east too little", -10001, 0, api.ErrRange},
		{"north too great", 0, 10001, api.ErrRange},
		{"north too little", 0, -10001, api.ErrRange},
		{"the greatest", math.MaxInt, math.MaxInt, api.ErrRange},
		{"the least", math.MinInt, math.MinInt, api.ErrRange},
		{"out of range and north too great", 5000, 10001, api.ErrRange},
		{"out to the east", 5000, 0, api.ErrLimit},
		{"out to the west", -1, 0, api.ErrLimit},
		{"out to the north", 0, 4994, api.ErrLimit},
		{"out to the south", 0, -5003, api.ErrLimit},
		{"far out", 10000, 0, api.ErrLimit},
	} {
		got, e := stack.Shifted(l, c.east, c.north)
		wantNoStack(t, c.name, got, e, c.want)
	}
	for _, w := range wrong() {
		got, e := stack.Shifted(w, 10001, 0)
		wantNoStack(t, "a stack that is not valid", got, e, api.ErrInvalid)
	}
}
