package ladder_test

import (
	"slices"
	"testing"

	"steeplejack/api"
	"steeplejack/ladder"
)

// 3.1: Right, at the edges of its rules.
func TestRight(t *testing.T) {
	l := js(10, 20, -30, 40, 60)
	for _, c := range []struct {
		name string
		c    api.Climb
		dogs []int
		want bool
	}{
		{"all rules are just kept", climb(10, 20, 60), []int{0, 1, 3}, true},
		{"up to the highest", climb(10, 20, 80), []int{0, 1, 3, 4}, true},
		{"the first one is too high", climb(9, 20, 60), []int{0, 1, 3}, false},
		{"the first one is not the lowest", climb(20, 20, 60), []int{1, 3}, true},
		{"the first one is higher than it may", climb(19, 20, 60), []int{1, 3}, false},
		{"a gap is too wide", climb(10, 19, 59), []int{0, 1, 3}, false},
		{"a gap is too wide without a dog", climb(10, 20, 60), []int{0, 3}, false},
		{"the gap is wide enough without it", climb(10, 30, 60), []int{0, 3}, true},
		{"the last one is too low", climb(10, 20, 61), []int{0, 1, 3}, false},
		{"the last one is above the top", climb(10, 20, 55), []int{0, 1, 3, 4}, true},
		{"two are above the top", climb(10, 20, 5), []int{0, 1, 3}, true},
		{"one is enough", climb(10, 20, 30), []int{0}, true},
		{"one is not enough", climb(10, 20, 31), []int{0}, false},
		{"the top is within the first gap", climb(10, 20, 1), []int{0}, true},
		{"no dogs", climb(10, 20, 1), nil, false},
		{"no dogs at all", climb(10, 20, 1), []int{}, false},
		{"not in a sound joint", climb(10, 20, 30), []int{0, 2}, false},
		{"the first one not in a sound joint", climb(30, 20, 30), []int{2}, false},
		{"the last one not in a sound joint", climb(10, 20, 50), []int{0, 1, 2}, false},
		{"twice", climb(10, 20, 30), []int{0, 0}, false},
		{"descending", climb(20, 20, 30), []int{1, 0}, false},
		{"index -1", climb(10, 20, 30), []int{-1, 0}, false},
		{"index 5", climb(10, 20, 30), []int{0, 1, 3, 4, 5}, false},
		{"index 5 alone", climb(10, 20, 30), []int{5}, false},
	} {
		if ladder.Right(c.c, l, c.dogs) != c.want {
			t.Errorf("%s: Right = %v", c.name, !c.want)
		}
		if slowRight(c.c, l, c.dogs) != c.want {
			t.Errorf("%s: the test itself is wrong", c.name)
		}
	}
	for _, bad := range wrongClimbs() {
		if ladder.Right(bad, rows(4, 1), upTo(4)) {
			t.Errorf("right for %v", bad)
		}
	}
	for _, bad := range wrongJoints() {
		if ladder.Right(climb(200_000, 200_000, 1), bad, upTo(1)) {
			t.Errorf("right for %v", bad)
		}
	}
}

// dogCases are walls with what is to be said about their dogs.
var dogCases = []struct {
	name           string
	c              api.Climb
	l              []api.Joint
	fewest, needed []int
	none           api.Errno // of Fewest and Needed
	reach          int
}{
	{"the example", example(), exampleJoints(), []int{0, 2}, []int{0}, api.OK, 40},
	{"the example without a joint", example(), js(10, 20, -30, 40), []int{0, 1, 3}, []int{0, 1, 3}, api.OK, 40},
	{"the first of three pairs", climb(20, 20, 55), js(10, 15, 20, 30, 35, 40, 45), []int{1, 4}, nil, api.OK, 45},
	{"just one pair", climb(20, 20, 60), js(10, 15, 20, 30, 35, 40, 45), []int{2, 5}, nil, api.OK, 45},
	{"the first of three single dogs", climb(20, 30, 40), js(5, 10, 18, 20), []int{1}, nil, api.OK, 20},
	{"just one single dog", climb(20, 20, 40), js(10, 18, 20), []int{2}, []int{2}, api.OK, 20},
	{"the lowest joint is not sound", climb(20, 20, 40), js(-10, 20), []int{1}, []int{1}, api.OK, 20},
	{"one is enough", climb(10, 20, 30), js(10, 20), []int{0}, []int{0}, api.OK, 20},
	{"a top one millimetre too high", climb(10, 20, 31), js(10), nil, nil, api.ErrNone, 10},
	{"a top too high for the highest joint", climb(10, 20, 61), js(10, 30, 40), nil, nil, api.ErrNone, 40},
	{"joints above the top", climb(10, 20, 35), js(10, 30, 50), []int{0, 1}, []int{0, 1}, api.OK, 50},
	{"only above the top", climb(100, 10, 50), js(30, 80), []int{1}, []int{1}, api.OK, 80},
	{"a top within the first gap", climb(10, 20, 1), js(3, 8), []int{0}, nil, api.OK, 8},
	{"the first one just too high", climb(9, 20, 31), js(10, 20), nil, nil, api.ErrNone, 0},
	{"a gap just too wide", climb(10, 19, 50), js(10, 30, 40), nil, nil, api.ErrNone, 10},
	{"a gap under what one reaches from the ground", climb(30, 5, 40), js(10, 30, 35), []int{1, 2}, []int{1, 2}, api.OK, 35},
	{"stuck where one reaches from the ground", climb(30, 5, 36), js(10, 30), nil, nil, api.ErrNone, 30},
	{"no joints", climb(10, 20, 1), nil, nil, nil, api.ErrNone, 0},
	{"no sound joints", climb(10, 20, 1), js(-5, -10), nil, nil, api.ErrNone, 0},
	{"a joint that is not sound is missed", climb(10, 20, 60), js(10, -30, 40, 50), nil, nil, api.ErrNone, 10},
	{"the greatest numbers", climb(200_000, 200_000, 200_000), js(200_000), []int{0}, []int{0}, api.OK, 200_000},
	{"stuck at the greatest height", climb(200_000, 1, 200_000), js(199_998), nil, nil, api.ErrNone, 199_998},
	{"all but one of the most joints", climb(1000, 1000, 200_000), rows(200, 1000), upTo(199), upTo(199), api.OK, 200_000},
	{"each tenth of the most joints", climb(10, 10, 195), rows(200, 1), []int{4, 14, 24, 34, 44, 54, 64, 74, 84, 94, 104, 114, 124, 134, 144, 154, 164, 174, 184}, nil, api.OK, 200},
}

// 3.1, 3.2, 3.4: Fewest, Needed, Stuck, Proves and Reach.
func TestDogs(t *testing.T) {
	for _, c := range dogCases {
		got, e := ladder.Fewest(c.c, c.l)
		wantList(t, c.name+": Fewest", got, e, c.fewest, c.none)
		got, e = ladder.Needed(c.c, c.l)
		wantList(t, c.name+": Needed", got, e, c.needed, c.none)
		n, e := ladder.Reach(c.c, c.l)
		wantNumber(t, c.name+": Reach", n, e, c.reach, api.OK)
		n, e = ladder.Stuck(c.c, c.l)
		if c.none == api.OK {
			wantNumber(t, c.name+": Stuck", n, e, 0, api.ErrNone)
			continue
		}
		wantNumber(t, c.name+": Stuck", n, e, c.reach, api.OK)
		if !ladder.Proves(c.c, c.l, c.reach) {
			t.Errorf("%s: %d proves nothing", c.name, c.reach)
		}
	}
}

// 3.1, 3.2, 3.4: a wall or a climb that is not valid.
func TestInvalidWall(t *testing.T) {
	check := func(c api.Climb, l []api.Joint) {
		t.Helper()
		got, e := ladder.Fewest(c, l)
		wantList(t, "Fewest", got, e, nil, api.ErrInvalid)
		got, e = ladder.Needed(c, l)
		wantList(t, "Needed", got, e, nil, api.ErrInvalid)
		n, e := ladder.Reach(c, l)
		wantNumber(t, "Reach", n, e, 0, api.ErrInvalid)
		n, e = ladder.Stuck(c, l)
		wantNumber(t, "Stuck", n, e, 0, api.ErrInvalid)
		got, e = ladder.Spare(c, l, upTo(len(l)))
		wantList(t, "Spare", got, e, nil, api.ErrInvalid)
		for _, height := range []int{0, 10, 100} {
			if ladder.Proves(c, l, height) {
				t.Errorf("%v, %v: %d proves something", c, l, height)
			}
		}
	}
	for _, c := range wrongClimbs() {
		check(c, exampleJoints())
		check(c, nil)
	}
	for _, l := range wrongJoints() {
		check(example(), l)
		check(climb(1, 1, 200_000), l)
	}
}

// 3.2: Proves.
func TestProves(t *testing.T) {
	l := js(10, 20, -30, 45, 60)
	for _, c := range []struct {
		name   string
		c      api.Climb
		l      []api.Joint
		height int
		want   bool
	}{
		{"where one is stuck", climb(10, 20, 80), l, 20, true},
		{"a height without a joint", climb(10, 20, 80), l, 24, true},
		{"a joint just near enough", climb(10, 20, 80), l, 25, false},
		{"a joint that is not sound", climb(10, 20, 80), l, 30, false},
		{"one goes on", climb(10, 20, 80), l, 10, false},
		{"just below a joint", climb(10, 20, 80), l, 19, false},
		{"above it, but at the top", climb(10, 20, 80), l, 60, false},
		{"above it, and just not at the top", climb(10, 20, 81), l, 60, true},
		{"the ground, with a first dog", climb(10, 20, 80), l, 0, false},
		{"the ground, without a first dog", climb(9, 20, 80), l, 0, true},
		{"the ground, though the top is within a gap", climb(9, 90, 80), l, 0, true},
		{"the ground, without a sound first dog", climb(35, 20, 80), js(-10, -35, 36), 0, true},
		{"the ground, with a sound first dog", climb(36, 20, 80), js(-10, -35, 36), 0, false},
		{"one millimetre up", climb(9, 20, 80), l, 1, false},
		{"one comes to another from the ground", climb(25, 1, 80), js(10, 20), 10, false},
		{"one comes to another from the ground, just", climb(20, 1, 80), js(10, 20), 10, false},
		{"one just does not", climb(19, 1, 80), js(10, 20), 10, true},
		{"from the ground to where one is stuck", climb(25, 1, 80), js(10, 20), 20, true},
		{"only below", climb(25, 1, 80), js(10, 20), 15, false},
		{"no joints, the ground", climb(10, 20, 80), nil, 0, true},
		{"no joints, just below the last gap", climb(10, 20, 80), nil, 59, true},
		{"no joints, at the last gap", climb(10, 20, 80), nil, 60, false},
		{"the greatest height", climb(10, 20, 80), nil, 200_000, false},
		{"below the ground", climb(10, 20, 80), nil, -1, false},
		{"above the greatest height", climb(10, 20, 80), nil, 200_001, false},
	} {
		if ladder.Proves(c.c, c.l, c.height) != c.want {
			t.Errorf("%s: Proves = %v", c.name, !c.want)
		}
	}
}

// 3.4: Spare.
func TestSpare(t *testing.T) {
	for _, c := range []struct {
		name string
		c    api.Climb
		l    []api.Joint
		dogs []int
		want []int
		e    api.Errno
	}{
		{"all but the first", example(), exampleJoints(), []int{0, 1, 2, 3}, []int{1, 2, 3}, api.OK},
		{"indexes of dogs, not of joints", example(), js(3, -5, 10, 20, 30, 40), []int{2, 3, 4, 5}, []int{1, 2, 3}, api.OK},
		{"none", example(), exampleJoints(), []int{0, 2}, nil, api.OK},
		{"only the last", example(), exampleJoints(), []int{0, 2, 3}, []int{2}, api.OK},
		{"the first", climb(20, 20, 50), exampleJoints(), []int{0, 1, 2}, []int{0, 1}, api.OK},
		{"a single dog is never spare", climb(10, 20, 30), exampleJoints(), []int{0}, nil, api.OK},
		{"not right", example(), exampleJoints(), []int{0, 3}, nil, api.ErrState},
		{"no dogs", example(), exampleJoints(), nil, nil, api.ErrState},
		{"a wrong index", example(), exampleJoints(), []int{0, 1, 2, 4}, nil, api.ErrState},
		{"a joint that is not sound", example(), js(10, -20, 30, 40), []int{0, 1, 2}, nil, api.ErrState},
	} {
		got, e := ladder.Spare(c.c, c.l, c.dogs)
		wantList(t, c.name+": Spare", got, e, c.want, c.e)
	}
}

// P3.2, P3.3, P3.4, P4 and 3.4: what is said about dogs, against all lists that there are.
func TestDogsAgainstAllLists(t *testing.T) {
	r := random()
	single, several, stuck := 0, 0, 0
	for range 600 {
		c, l := randomClimb(r), randomJoints(r, r.IntN(11), 25)
		all := allRight(c, l)
		none := api.OK
		if len(all) == 0 {
			none = api.ErrNone
		}
		got, e := ladder.Fewest(c, l)
		wantList(t, "Fewest", got, e, shortest(all), none)
		got, e = ladder.Needed(c, l)
		wantList(t, "Needed", got, e, inAll(all, len(l)), none)
		checkReach(t, c, l, none)
		for _, dogs := range picks(0, len(l)) {
			if ladder.Right(c, l, dogs) != slowRight(c, l, dogs) {
				t.Fatalf("Right(%v, %v, %v)", c, l, dogs)
			}
		}
		switch {
		case len(all) == 0:
			stuck++
		case len(shortest(all)) > 1:
			several++
		default:
			single++
		}
		if t.Failed() {
			t.Fatalf("%v, %v", c, l)
		}
	}
	if single < 50 || several < 50 || stuck < 50 {
		t.Errorf("one dog is enough on %d walls, more are on %d, none on %d", single, several, stuck)
	}
}

// inAll is the numbers below n that are in all lists.
func inAll(all [][]int, n int) []int {
	return slices.DeleteFunc(upTo(n), func(i int) bool {
		return slices.ContainsFunc(all, func(l []int) bool { return !slices.Contains(l, i) })
	})
}

// checkReach compares Reach, Stuck and Proves with all lists that keep the rules but the last one.
func checkReach(t *testing.T, c api.Climb, l []api.Joint, none api.Errno) {
	t.Helper()
	far, highest := c, 0
	far.Top = 1
	for _, dogs := range picks(0, len(l)) {
		if slowRight(far, l, dogs) {
			highest = max(highest, l[dogs[len(dogs)-1]].Height)
		}
	}
	n, e := ladder.Reach(c, l)
	wantNumber(t, "Reach", n, e, highest, api.OK)
	n, e = ladder.Stuck(c, l)
	if none == api.OK {
		wantNumber(t, "Stuck", n, e, 0, api.ErrNone)
	} else {
		wantNumber(t, "Stuck", n, e, highest, api.OK)
	}
	if none != api.OK && !ladder.Proves(c, l, highest) {
		t.Errorf("Stuck's height %d proves nothing", highest)
	}
	for height := range 60 {
		if none == api.OK && ladder.Proves(c, l, height) {
			t.Errorf("there are right dogs, but %d proves that there are none", height)
		}
	}
}

// P3.4: failing joints, and 3.4: dogs that are left out.
func TestNeededAndSpare(t *testing.T) {
	r := random()
	needed, spare := 0, 0
	for range 500 {
		c, l := randomClimb(r), randomJoints(r, 20, 40)
		l[0] = api.Joint{Height: 1, Sound: true}
		need, e := ladder.Needed(c, l)
		if e != api.OK {
			continue
		}
		for i := range l {
			failed, _ := ladder.Failed(l, i)
			_, e := ladder.Fewest(c, failed)
			if (e == api.ErrNone) != slices.Contains(need, i) {
				t.Fatalf("joint %d of %v for %v: error %d", i, l, c, e)
			}
		}
		needed += len(need)
		all, _ := ladder.Sound(l)
		got, e := ladder.Spare(c, l, all)
		if !slowRight(c, l, all) {
			wantList(t, "Spare", got, e, nil, api.ErrState)
			continue
		}
		want := slices.DeleteFunc(upTo(len(all)), func(i int) bool {
			return !slowRight(c, l, slices.Delete(slices.Clone(all), i, i+1))
		})
		wantList(t, "Spare", got, e, want, api.OK)
		spare += len(want)
	}
	if needed < 50 || spare < 50 {
		t.Errorf("%d joints are needed, %d dogs spare", needed, spare)
	}
}
