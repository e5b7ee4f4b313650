package lean_test

import (
	"reflect"
	"slices"
	"testing"

	"steeplejack/api"
	"steeplejack/lean"
)

// R1, P1 and P1.1: no call panics, whatever its numbers.
func TestWildNumbers(t *testing.T) {
	for _, a := range wild {
		for _, b := range wild {
			m, p := api.Mark{Height: a, East: b, North: a}, api.Point{Height: a, X: b}
			lean.Valid([]api.Mark{m, {}, m})
			lean.ValidPoints([]api.Point{p, {}, p})
			lean.Moved(mks(0, a, b), mks(a, 0, b), a)
			lean.Turned(mks(0, a, b), b)
			lean.Turned(mks(0, 0, 0), b)
			lean.Format([]api.Mark{m})
			lean.Through(p, api.Point{Height: b, X: a})
			lean.Nearest([]api.Point{{}, p, {Height: 9}})
			lean.Bend([]api.Point{p, {Height: b}})
			lean.Proof([]api.Point{{}, p, {Height: 9}})
			for _, c := range wild {
				x := ln(a, b, c)
				lean.ValidLine(x)
				lean.Make(a, b, c)
				lean.At(x, a)
				lean.Distance(x, p)
				lean.Worst(x, pts(0, 0, 9, 9))
				lean.Raised(pts(0, 0, 9, 9), x)
				lean.Proves(x, pts(0, 0, 9, 9, 10, 0), [3]int{a, b, c})
				lean.Proves(ln(0, 0, 1), pts(0, 0, 9, 9, 10, 0), [3]int{a, b, c})
				lean.Reaches(api.Mark{}, m, a, b, c)
				lean.Reaches(api.Mark{}, api.Mark{East: 1}, a, b, c)
				lean.Compare(rat(a, b), rat(b, c))
			}
		}
	}
}

// R4 and P1.1: a result is new memory; neither an argument nor its spare capacity changes.
func TestNewMemory(t *testing.T) {
	survey := func() []api.Mark { return mks(0, 1, 2, 10, 3, -4, 20, 5, 6, 30, 7, 8) }
	points := func() []api.Point { return pts(0, 1, 10, 3, 20, -5, 30, 7) }
	for _, c := range []struct {
		name string
		call func(l []api.Mark, p []api.Point) any
	}{
		{"East", func(l []api.Mark, p []api.Point) any { r, _ := lean.East(l); return r }},
		{"North", func(l []api.Mark, p []api.Point) any { r, _ := lean.North(l); return r }},
		{"Raised", func(l []api.Mark, p []api.Point) any { r, _ := lean.Raised(p, ln(0, 0, 1)); return r }},
		{"Turned by 0", func(l []api.Mark, p []api.Point) any { r, _ := lean.Turned(l, 0); return r }},
		{"Turned by 1", func(l []api.Mark, p []api.Point) any { r, _ := lean.Turned(l, 1); return r }},
		{"Moved", func(l []api.Mark, p []api.Point) any { r, _ := lean.Moved(l, mks(0, 0, 0, 10, 0, 0), 0); return r }},
		{"Parse", func(l []api.Mark, p []api.Point) any { r, _, _ := lean.Parse("0 1 2\n10 3 -4\n"); return r }},
		{"the others", func(l []api.Mark, p []api.Point) any {
			lean.Valid(l)
			lean.ValidPoints(p)
			lean.Worst(ln(0, 0, 1), p)
			lean.Nearest(p)
			lean.Bend(p)
			lean.Proof(p)
			lean.Proves(ln(0, 0, 1), p, [3]int{0, 1, 2})
			lean.Format(l)
			return []int{1}
		}},
	} {
		l, p := survey(), points()
		first := c.call(l[:2], p[:3])
		if !slices.Equal(l, survey()) || !slices.Equal(p, points()) {
			t.Errorf("%s changes its argument", c.name)
		}
		if reflect.ValueOf(first).Len() == 0 {
			t.Errorf("%s: no result", c.name)
		}
		overwrite(first)
		if !slices.Equal(l, survey()) || !slices.Equal(p, points()) {
			t.Errorf("%s: the result shares memory with an argument", c.name)
		}
		second := c.call(l[:2], p[:3])
		if reflect.DeepEqual(first, second) && c.name != "the others" {
			t.Errorf("%s: two results share memory", c.name)
		}
	}
}

// overwrite changes all of a slice up to its capacity.
func overwrite(slice any) {
	v := reflect.ValueOf(slice)
	v = v.Slice(0, v.Cap())
	for i := range v.Len() {
		item := v.Index(i)
		if item.Kind() == reflect.Int {
			item.SetInt(-7)
			continue
		}
		for j := range item.NumField() {
			item.Field(j).SetInt(-7)
		}
	}
}

// R4: nil and empty are alike. R5: what is not valid gives the zero value.
func TestNilAndEmpty(t *testing.T) {
	for _, l := range [][]api.Point{nil, {}} {
		if _, _, e := lean.Worst(ln(0, 0, 1), l); e != api.ErrInvalid || lean.ValidPoints(l) {
			t.Errorf("Worst: error %d", e)
		}
		if _, e := lean.Raised(l, ln(0, 0, 1)); e != api.ErrInvalid {
			t.Errorf("Raised: error %d", e)
		}
		if lean.Proves(ln(0, 0, 1), l, [3]int{}) {
			t.Error("Proves")
		}
	}
	for _, l := range [][]api.Mark{nil, {}} {
		if lean.Valid(l) || lean.Format(l) != "" {
			t.Error("Valid or Format")
		}
		if _, e := lean.Moved(l, l, 0); e != api.ErrInvalid {
			t.Errorf("Moved: error %d", e)
		}
	}
}

// R2: where both arguments are wrong, what the chapter names first decides.
func TestFirstError(t *testing.T) {
	_, e := lean.At(ln(0, 0, 0), -1)
	wantErrno(t, "At", e, api.ErrInvalid)
	_, e = lean.Through(api.Point{Height: -1}, api.Point{Height: -1})
	wantErrno(t, "Through", e, api.ErrInvalid)
	_, e = lean.Raised(pts(5, 0, 5, 0), ln(20001, 0, 1))
	wantErrno(t, "Raised", e, api.ErrInvalid)
	_, e = lean.Reaches(api.Mark{Height: -1}, api.Mark{}, 5, 5, 0)
	wantErrno(t, "Reaches", e, api.ErrInvalid)
	_, _, e = lean.Parse(string(make([]byte, api.MaxText+1)))
	wantErrno(t, "Parse", e, api.ErrLong)
}

// R7: the same call gives the same result.
func TestSameAgain(t *testing.T) {
	l := heap(random(), 40, 10000)
	x, at, bend := mustNearest(t, l), [3]int{}, mustBend(t, l)
	for i := range 20 {
		again, _ := lean.Proof(l)
		if mustNearest(t, l) != x || mustBend(t, l) != bend || i > 0 && again != at {
			t.Fatal("another result")
		}
		at = again
	}
}
