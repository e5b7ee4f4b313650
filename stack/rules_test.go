package stack_test

import (
	"slices"
	"testing"

	"steeplejack/api"
	"steeplejack/stack"
)

// R1, P1 and P2.1: no call panics, whatever its numbers.
func TestWildNumbers(t *testing.T) {
	for _, a := range wild {
		for _, b := range wild {
			c := api.Course{Height: a, Out: b, In: a, Weight: b, East: a, North: b}
			stack.Valid([]api.Course{c})
			stack.Format([]api.Course{c})
			stack.Added(one(), c)
			stack.Weight(one(), a)
			stack.Centre(one(), a)
			stack.Moment(one(), a, b)
			stack.Open(one(), a, b)
			stack.Stands(one(), a, b)
			stack.Falls(one(), a, b)
			stack.Safe(one(), a)
			stack.Cut(one(), a)
			stack.Split(one(), a, b)
			stack.Turned(one(), a)
			stack.Shifted(one(), a, b)
			for _, side := range wild {
				stack.Arm(one(), a, b, side)
				stack.Closed(one(), a, b, side)
				stack.Holds(one(), a, b, side)
			}
		}
	}
}

// R4 and P2.1: a result is new memory; neither an argument nor its spare capacity changes.
func TestNewMemory(t *testing.T) {
	for _, c := range []struct {
		name string
		call func(l []api.Course) []api.Course
	}{
		{"Added", func(l []api.Course) []api.Course { r, _ := stack.Added(l, one()[0]); return r }},
		{"Cut", func(l []api.Course) []api.Course { r, _ := stack.Cut(l, 2); return r }},
		{"Cut by nothing", func(l []api.Course) []api.Course { r, _ := stack.Cut(l, len(l)); return r }},
		{"Split", func(l []api.Course) []api.Course { r, _ := stack.Split(l, 1, 500); return r }},
		{"Turned by 0", func(l []api.Course) []api.Course { r, _ := stack.Turned(l, 0); return r }},
		{"Turned by 1", func(l []api.Course) []api.Course { r, _ := stack.Turned(l, 1); return r }},
		{"Shifted", func(l []api.Course) []api.Course { r, _ := stack.Shifted(l, 0, 1); return r }},
		{"Shifted too far", func(l []api.Course) []api.Course { stack.Shifted(l, 4990, 0); return nil }},
		{"Parse", func(l []api.Course) []api.Course { r, _, _ := stack.Parse(stack.Format(l)); return r }},
		{"the others", func(l []api.Course) []api.Course {
			stack.Valid(l)
			stack.Height(l)
			stack.Arm(l, 1, 2, 3)
			stack.Open(l, 9000, 2)
			stack.Falls(l, 9000, 2)
			stack.Least(l)
			return nil
		}},
	} {
		l := slices.Concat(three(), huge()[:5])
		want := slices.Clone(l)
		first := c.call(l[:3])
		kept := slices.Clone(first)
		if !slices.Equal(l, want) {
			t.Errorf("%s changes its argument", c.name)
		}
		for i := range l {
			l[i] = api.Course{}
		}
		if !slices.Equal(first, kept) {
			t.Errorf("%s keeps its argument", c.name)
		}
		copy(l, want)
		overwrite(first)
		if second := c.call(l[:3]); !slices.Equal(l, want) || !slices.Equal(second, kept) {
			t.Errorf("%s: results share memory", c.name)
		}
	}
}

// overwrite changes all of a slice up to its capacity.
func overwrite(l []api.Course) {
	l = l[:cap(l)]
	for i := range l {
		l[i].Height = -7
	}
}

// R4: the beds of Open are new memory too.
func TestOpenIsNew(t *testing.T) {
	l, _ := stack.Open(huge(), 10000, 0)
	want := slices.Clone(l)
	if len(want) == 0 {
		t.Fatal("no bed is open")
	}
	for i := range l {
		l[i] = -7
	}
	if again, _ := stack.Open(huge(), 10000, 0); !slices.Equal(again, want) {
		t.Errorf("Open = %v, then %v", want, again)
	}
}

// R7: the same call gives the same result.
func TestSameAgain(t *testing.T) {
	l := pile(random(), 30, 100)
	p, side, e := stack.Least(l)
	open, _ := stack.Open(l, 50, 2)
	for range 20 {
		q, from, again := stack.Least(l)
		beds, _ := stack.Open(l, 50, 2)
		if q != p || from != side || again != e || !slices.Equal(beds, open) {
			t.Fatal("another result")
		}
	}
}
