package ladder_test

import (
	"slices"
	"testing"

	"steeplejack/api"
	"steeplejack/ladder"
)

// R1, P1 and P3.1: no call panics, whatever its numbers.
func TestWildNumbers(t *testing.T) {
	l := exampleJoints()
	for _, a := range wild {
		for _, b := range wild {
			joints := []api.Joint{{Height: a, Sound: true}, {Height: b, Sound: true}}
			ladder.ValidJoints(joints)
			ladder.Sound(joints)
			ladder.Format(joints)
			ladder.Failed(l, a)
			for _, n := range wild {
				c := api.Climb{First: a, Gap: b, Top: n, Length: a, Lap: b, Strength: n}
				allCalls(c, l, []int{0, 1, 2, 3}, []int{0, 2}, n)
				allCalls(example(), joints, []int{0, 1}, []int{0}, n)
				allCalls(example(), l, []int{a, b}, []int{b, n}, a)
				allCalls(example(), l, []int{0, 1, 2, 3}, []int{a, b, n}, b)
				allCalls(api.Climb{First: 200_000, Gap: 200_000, Top: 200_000, Length: 200_000, Strength: 1_000_000}, l, []int{a}, []int{b}, n)
			}
		}
	}
}

// allCalls makes all calls that take a climb.
func allCalls(c api.Climb, l []api.Joint, dogs, ladders []int, n int) {
	ladder.ValidClimb(c)
	ladder.Right(c, l, dogs)
	ladder.Fewest(c, l)
	ladder.Stuck(c, l)
	ladder.Proves(c, l, n)
	ladder.Needed(c, l)
	ladder.On(c, l, dogs, n)
	ladder.Set(c, l, dogs, ladders)
	ladder.Ladders(c, l, dogs)
	ladder.Bears(c, l, dogs, ladders, n)
	ladder.Greatest(c, l, dogs, ladders)
	ladder.Spare(c, l, dogs)
	ladder.Reach(c, l)
}

// R4 and P3.1: a result is new memory; neither an argument nor its spare capacity changes.
func TestNewMemory(t *testing.T) {
	for _, c := range []struct {
		name string
		call func(l []api.Joint, dogs, ladders []int) []int
	}{
		{"Sound", func(l []api.Joint, dogs, ladders []int) []int { r, _ := ladder.Sound(l); return r }},
		{"Fewest", func(l []api.Joint, dogs, ladders []int) []int { r, _ := ladder.Fewest(example(), l); return r }},
		{"Needed", func(l []api.Joint, dogs, ladders []int) []int { r, _ := ladder.Needed(example(), l); return r }},
		{"On", func(l []api.Joint, dogs, ladders []int) []int { r, _ := ladder.On(example(), l, dogs, 0); return r }},
		{"Ladders", func(l []api.Joint, dogs, ladders []int) []int {
			r, _ := ladder.Ladders(example(), l, dogs)
			return r
		}},
		{"Spare", func(l []api.Joint, dogs, ladders []int) []int { r, _ := ladder.Spare(example(), l, dogs); return r }},
		{"the others", func(l []api.Joint, dogs, ladders []int) []int {
			allCalls(example(), l, dogs, ladders, 100)
			ladder.Format(l)
			return []int{1}
		}},
	} {
		l, dogs, ladders := slices.Concat(exampleJoints(), js(50, -60)), []int{0, 1, 2, 3, 7, 8}, []int{0, 2, 5, 6}
		joints, indexes, feet := slices.Clone(l), slices.Clone(dogs), slices.Clone(ladders)
		same := func() bool {
			return slices.Equal(l, joints) && slices.Equal(dogs, indexes) && slices.Equal(ladders, feet)
		}
		first := c.call(l[:4], dogs[:4], ladders[:2])
		kept := slices.Clone(first)
		if !same() || len(first) == 0 {
			t.Errorf("%s: an argument changes, or there is no result", c.name)
		}
		for i := range first[:cap(first)] {
			first[:cap(first)][i] = -7
		}
		if second := c.call(l[:4], dogs[:4], ladders[:2]); !same() || !slices.Equal(second, kept) {
			t.Errorf("%s: results share memory", c.name)
		}
	}
}

// R4: so are joints.
func TestNewJoints(t *testing.T) {
	for _, c := range []struct {
		name string
		call func(l []api.Joint) []api.Joint
	}{
		{"Failed", func(l []api.Joint) []api.Joint { r, _ := ladder.Failed(l, 1); return r }},
		{"Failed before", func(l []api.Joint) []api.Joint { r, _ := ladder.Failed(l, 2); return r }},
		{"Parse", func(l []api.Joint) []api.Joint { r, _ := ladder.Parse("10 20 30! 40"); return r }},
	} {
		l := js(10, 20, -30, 40, 50)
		first := c.call(l[:4])
		kept := slices.Clone(first)
		for i := range first[:cap(first)] {
			first[:cap(first)][i].Height = -7
		}
		if !slices.Equal(l, js(10, 20, -30, 40, 50)) || len(first) != 4 {
			t.Errorf("%s: an argument changes", c.name)
		}
		if second := c.call(l[:4]); !slices.Equal(second, kept) {
			t.Errorf("%s: results share memory", c.name)
		}
	}
}

// R4: nil and empty are alike.
func TestNilAndEmpty(t *testing.T) {
	for _, none := range [][]int{nil, {}} {
		if ladder.Right(example(), exampleJoints(), none) || ladder.Set(example(), exampleJoints(), upTo(4), none) {
			t.Error("nothing is right")
		}
		_, e := ladder.On(example(), exampleJoints(), none, 0)
		wantNumber(t, "On", 0, e, 0, api.ErrRange)
		_, e = ladder.Spare(example(), exampleJoints(), none)
		wantNumber(t, "Spare", 0, e, 0, api.ErrState)
	}
	for _, l := range [][]api.Joint{nil, {}} {
		n, e := ladder.Stuck(example(), l)
		wantNumber(t, "Stuck", n, e, 0, api.OK)
		got, e := ladder.Fewest(example(), l)
		wantList(t, "Fewest", got, e, nil, api.ErrNone)
		got, e = ladder.Needed(example(), l)
		wantList(t, "Needed", got, e, nil, api.ErrNone)
	}
}

// R7: the same call gives the same result.
func TestSameAgain(t *testing.T) {
	c := api.Climb{First: 50, Gap: 30, Top: 195, Length: 60, Lap: 20, Strength: 1}
	fewest, _ := ladder.Fewest(c, rows(200, 1))
	ladders, _ := ladder.Ladders(c, rows(200, 1), upTo(200))
	if len(fewest) == 0 || len(ladders) == 0 {
		t.Fatal("no dogs or no ladders")
	}
	for range 50 {
		dogs, _ := ladder.Fewest(c, rows(200, 1))
		feet, _ := ladder.Ladders(c, rows(200, 1), upTo(200))
		if !slices.Equal(dogs, fewest) || !slices.Equal(feet, ladders) {
			t.Fatal("another result")
		}
	}
}
