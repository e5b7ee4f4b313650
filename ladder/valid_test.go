package ladder_test

import (
	"slices"
	"testing"

	"steeplejack/api"
	"steeplejack/ladder"
)

// 3.1: ValidJoints.
func TestValidJoints(t *testing.T) {
	for _, l := range [][]api.Joint{nil, {}, exampleJoints(), js(1), js(-1), js(200_000), js(1, 2, -3, 200_000), rows(200, 1), rows(200, 1000)} {
		if !ladder.ValidJoints(l) {
			t.Errorf("%v is not valid", l)
		}
	}
	for _, l := range wrongJoints() {
		if ladder.ValidJoints(l) {
			t.Errorf("%v is valid", l)
		}
	}
}

// 3.1: ValidClimb.
func TestValidClimb(t *testing.T) {
	for _, c := range []api.Climb{
		example(),
		{First: 1, Gap: 1, Top: 1, Length: 1, Lap: 0, Strength: 1},
		{First: 200_000, Gap: 200_000, Top: 200_000, Length: 200_000, Lap: 199_999, Strength: 1_000_000},
		{First: 200_000, Gap: 1, Top: 1, Length: 25, Lap: 0, Strength: 1},
		{First: 1, Gap: 200_000, Top: 2, Length: 25, Lap: 24, Strength: 1},
	} {
		if !ladder.ValidClimb(c) {
			t.Errorf("%v is not valid", c)
		}
	}
	if ladder.ValidClimb(api.Climb{}) {
		t.Error("no climb is valid")
	}
	for _, c := range wrongClimbs() {
		if ladder.ValidClimb(c) {
			t.Errorf("%v is valid", c)
		}
	}
}

// 3.1: Sound.
func TestSound(t *testing.T) {
	for _, c := range []struct {
		l    []api.Joint
		want []int
	}{
		{nil, nil},
		{js(-10), nil},
		{js(-10, -20), nil},
		{exampleJoints(), []int{0, 1, 2, 3}},
		{js(10, -20, 30, -40), []int{0, 2}},
		{js(-10, 20), []int{1}},
		{rows(200, 1000), upTo(200)},
	} {
		got, e := ladder.Sound(c.l)
		wantList(t, "Sound", got, e, c.want, api.OK)
	}
	for _, l := range wrongJoints() {
		got, e := ladder.Sound(l)
		wantList(t, "Sound", got, e, nil, api.ErrInvalid)
	}
}

// 3.4: Failed.
func TestFailed(t *testing.T) {
	for _, c := range []struct {
		l    []api.Joint
		i    int
		want []api.Joint
		e    api.Errno
	}{
		{exampleJoints(), 0, js(-10, 20, 30, 40), api.OK},
		{exampleJoints(), 2, js(10, 20, -30, 40), api.OK},
		{exampleJoints(), 3, js(10, 20, 30, -40), api.OK},
		{js(10, -20), 1, js(10, -20), api.OK},
		{exampleJoints(), 4, nil, api.ErrRange},
		{exampleJoints(), -1, nil, api.ErrRange},
		{nil, 0, nil, api.ErrRange},
		{js(20, 10), 0, nil, api.ErrInvalid},
		{js(20, 10), 2, nil, api.ErrInvalid},
	} {
		if got, e := ladder.Failed(c.l, c.i); !slices.Equal(got, c.want) || e != c.e {
			t.Errorf("Failed(%v, %d) = %v, error %d", c.l, c.i, got, e)
		}
	}
}
