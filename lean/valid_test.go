package lean_test

import (
	"math"
	"slices"
	"testing"

	"steeplejack/api"
	"steeplejack/lean"
)

// 1.1: surveys and points.
func TestValid(t *testing.T) {
	for _, c := range []struct {
		name string
		l    []api.Mark
		want bool
	}{
		{"nil", nil, false},
		{"empty", []api.Mark{}, false},
		{"one", mks(0, 0, 0), true},
		{"greatest", mks(200000, 10000, 10000), true},
		{"least", mks(0, -10000, -10000), true},
		{"height -1", mks(-1, 0, 0), false},
		{"height too great", mks(200001, 0, 0), false},
		{"east too great", mks(0, 10001, 0), false},
		{"east too little", mks(0, -10001, 0), false},
		{"north too great", mks(0, 0, 10001), false},
		{"north too little", mks(0, 0, -10001), false},
		{"least integers", mks(0, math.MinInt, math.MinInt), false},
		{"equal heights", mks(5, 0, 0, 5, 1, 1), false},
		{"descending", mks(5, 0, 0, 4, 0, 0), false},
		{"ascending", mks(5, 0, 0, 6, 0, 0), true},
		{"last one wrong", mks(5, 0, 0, 6, 0, 0, 7, 0, 10001), false},
		{"40", marks(40), true},
		{"41", marks(41), false},
	} {
		if got := lean.Valid(c.l); got != c.want {
			t.Errorf("%s: Valid = %v", c.name, got)
		}
	}
}

func TestValidPoints(t *testing.T) {
	fill := func(n int) []api.Point {
		l := make([]api.Point, n)
		for i := range l {
			l[i].Height = i
		}
		return l
	}
	for _, c := range []struct {
		name string
		l    []api.Point
		want bool
	}{
		{"nil", nil, false},
		{"empty", []api.Point{}, false},
		{"one", pts(0, 0), true},
		{"greatest", pts(200000, 10000), true},
		{"least", pts(0, -10000), true},
		{"height -1", pts(-1, 0), false},
		{"height too great", pts(200001, 0), false},
		{"x too great", pts(0, 10001), false},
		{"x too little", pts(0, -10001), false},
		{"equal heights", pts(5, 0, 5, 1), false},
		{"descending", pts(5, 0, 4, 0), false},
		{"ascending", pts(5, 0, 6, 0), true},
		{"last one wrong", pts(5, 0, 6, 0, 7, math.MinInt), false},
		{"40", fill(40), true},
		{"41", fill(41), false},
	} {
		if got := lean.ValidPoints(c.l); got != c.want {
			t.Errorf("%s: ValidPoints = %v", c.name, got)
		}
	}
}

// 1.1: East and North take each their own offset.
func TestOffsets(t *testing.T) {
	l := mks(0, 1, -2, 7, 3, 4, 200000, -10000, 10000)
	if p, e := lean.East(l); e != api.OK || !slices.Equal(p, pts(0, 1, 7, 3, 200000, -10000)) {
		t.Errorf("East = %v, error %d", p, e)
	}
	if p, e := lean.North(l); e != api.OK || !slices.Equal(p, pts(0, -2, 7, 4, 200000, 10000)) {
		t.Errorf("North = %v, error %d", p, e)
	}
	for _, l := range [][]api.Mark{nil, mks(5, 0, 0, 5, 0, 0), mks(0, 0, 10001), mks(0, 10001, 0), marks(41)} {
		p, e := lean.East(l)
		if e != api.ErrInvalid || len(p) != 0 {
			t.Errorf("East(%v) = %v, error %d", l, p, e)
		}
		p, e = lean.North(l)
		if e != api.ErrInvalid || len(p) != 0 {
			t.Errorf("North(%v) = %v, error %d", l, p, e)
		}
	}
}
