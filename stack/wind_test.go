package stack_test

import (
	"slices"
	"testing"

	"steeplejack/api"
	"steeplejack/stack"
)

// 2.2: a bed at its edge is closed, or holds; one a little farther does not.
func TestClosedAndHolds(t *testing.T) {
	// The upper course weighs a third of both: the arm of the foot is a third of its place, the edge is 680 / 3.
	upper := func(east, north int) []api.Course {
		return crs(1000, 500, 300, 2, 0, 0, 1, 500, 300, 1, east, north)
	}
	for _, c := range []struct {
		name          string
		l             []api.Course
		p, side       int
		closed, holds bool
	}{
		{"the example", one(), 100, 0, true, true},
		{"the example's edge", one(), 4447, 0, true, true},
		{"behind the example's edge", one(), 4448, 0, false, true},
		{"the edge, to the east", upper(680, 0), 0, 0, true, true},
		{"behind the edge, to the east", upper(681, 0), 0, 0, false, true},
		{"the edge, to the west", upper(-680, 0), 0, 1, true, true},
		{"behind the edge, to the west", upper(-681, 0), 0, 1, false, true},
		{"the edge, to the north", upper(0, 680), 0, 2, true, true},
		{"behind the edge, to the north", upper(0, 681), 0, 2, false, true},
		{"the edge, to the south", upper(0, -680), 0, 3, true, true},
		{"behind the edge, to the south", upper(0, -681), 0, 3, false, true},
		{"the edge, both ways", upper(-340, 340), 0, 0, true, true},
		{"behind the edge, both ways", upper(-340, -341), 0, 0, false, true},
		{"the end, to the east", upper(1500, 0), 0, 0, false, true},
		{"behind the end, to the east", upper(1501, 0), 0, 0, false, false},
		{"behind the end, to the west", upper(-1501, 0), 0, 0, false, false},
		{"the end, both ways", upper(-1500, -1500), 0, 0, false, true},
		{"behind the end, to the north", upper(0, 1501), 0, 0, false, false},
		{"behind the end, to the south", upper(1500, -1501), 0, 0, false, false},
		{"the edge in wind", crs(1000, 500, 300, 1250, 5, 5), 5559, 1, true, true},
		{"behind the edge in wind", crs(1000, 500, 300, 1250, 5, 5), 5560, 1, false, true},
		{"the end in wind", crs(1000, 500, 300, 100, 0, 0), 981, 2, false, true},
		{"behind the end in wind", crs(1000, 500, 300, 100, 0, 0), 982, 2, false, false},
	} {
		if ok, e := stack.Closed(c.l, 0, c.p, c.side); ok != c.closed || e != api.OK {
			t.Errorf("%s: Closed = %v, error %d", c.name, ok, e)
		}
		if ok, e := stack.Holds(c.l, 0, c.p, c.side); ok != c.holds || e != api.OK {
			t.Errorf("%s: Holds = %v, error %d", c.name, ok, e)
		}
		if ok, e := stack.Stands(c.l, c.p, c.side); ok != c.holds || e != api.OK {
			t.Errorf("%s: Stands = %v, error %d", c.name, ok, e)
		}
	}
}

// 2.2: Open, Stands and Falls.
func TestOpenAndFalls(t *testing.T) {
	// Four courses, each farther to the west by the step.
	steps := func(by int) []api.Course {
		l := same(4, one()[0])
		for i := range l {
			l[i].East = -by * i
		}
		return l
	}
	for _, c := range []struct {
		name    string
		l       []api.Course
		p, side int
		open    []int
		falls   int // -1: it stands
	}{
		{"straight", steps(0), 0, 0, nil, -1},
		{"steps of 151", steps(151), 0, 0, nil, -1},                // arms of 226.5, 151, 75.5 and 0
		{"steps of 152", steps(152), 0, 0, []int{0}, -1},           // 228, 152, 76 and 0
		{"steps of 227", steps(227), 0, 3, []int{0, 1}, -1},        // 340.5, 227, 113.5 and 0
		{"steps of 333", steps(333), 0, 3, []int{0, 1}, -1},        // 499.5, 333, 166.5 and 0
		{"steps of 334", steps(334), 0, 3, []int{0, 1}, 0},         // 501, 334, 167 and 0
		{"steps of 454", steps(454), 0, 3, []int{0, 1, 2}, 0},      // 681, 454, 227 and 0
		{"steps of 501", steps(501), 0, 3, []int{0, 1, 2}, 1},      // 751.5, 501, 250.5 and 0
		{"steps of 1001", steps(1001), 0, 3, []int{0, 1, 2}, 2},    // 1501.5, 1001, 500.5 and 0
		{"against the lean", steps(152), 10, 2, nil, -1},           // the foot goes back by 20 / 9.81
		{"with the lean", steps(151), 10, 0, []int{0}, -1},         // and on by as much
		{"all in wind", steps(0), 10000, 0, []int{0, 1, 2, 3}, 3},  // the top goes 5000 / 9.81
		{"the feet in wind", steps(0), 4000, 1, []int{0, 1, 2}, 1}, // arms of 8000, 6000, 4000 and 2000 / 9.81
	} {
		if open, e := stack.Open(c.l, c.p, c.side); !slices.Equal(open, c.open) || e != api.OK {
			t.Errorf("%s: Open = %v, error %d", c.name, open, e)
		}
		stands, e := stack.Stands(c.l, c.p, c.side)
		if stands != (c.falls < 0) || e != api.OK {
			t.Errorf("%s: Stands = %v, error %d", c.name, stands, e)
		}
		falls, e := stack.Falls(c.l, c.p, c.side)
		if c.falls < 0 && (falls != 0 || e != api.ErrNone) || c.falls >= 0 && (falls != c.falls || e != api.OK) {
			t.Errorf("%s: Falls = %d, error %d", c.name, falls, e)
		}
	}
}

// 2.3 and its Details.
func TestSafe(t *testing.T) {
	lean := crs(1000, 500, 300, 2000, 0, 0, 1000, 500, 300, 1000, 600, 0)
	for _, c := range []struct {
		name string
		l    []api.Course
		want [4]int // -1: ErrNone
	}{
		{"the example", one(), [4]int{4447, 4447, 4447, 4447}},
		{"an exact edge", crs(1000, 500, 300, 1250, -5000, 0), [4]int{5559, 5559, 5559, 5559}},
		{"no wind can do harm", crs(1, 5000, 4999, 1000000, 0, 0), [4]int{10000, 10000, 10000, 10000}},
		{"the heaviest wind is just safe", crs(1000, 500, 300, 2249, 0, 0), [4]int{10000, 10000, 10000, 10000}},
		{"the heaviest wind is just not safe", crs(1000, 500, 300, 2248, 0, 0), [4]int{9997, 9997, 9997, 9997}},
		{"no wind at all is safe", crs(2000, 5000, 0, 1, 0, 0), [4]int{0, 0, 0, 0}},
		{"leaning to the east", lean, [4]int{4447, 392, 392, 392}},
		{"at the edge without wind", crs(1000, 500, 300, 2, 0, 0, 1, 500, 300, 1, 680, 0), [4]int{26, 0, 0, 0}},
		{"closed with wind only", crs(1000, 500, 300, 2, 0, 0, 1, 500, 300, 1, 681, 0), [4]int{-1, -1, -1, -1}},
		{"falling", crs(1000, 500, 300, 2, 0, 0, 1, 500, 300, 1, 5000, 0), [4]int{-1, -1, -1, -1}},
	} {
		least, first := slices.Min(c.want[:]), slices.Index(c.want[:], slices.Min(c.want[:]))
		for side, want := range c.want {
			if p := mustSafe(t, c.l, side); p != want {
				t.Errorf("%s: Safe from %d = %d, want %d", c.name, side, p, want)
			}
		}
		p, side, e := stack.Least(c.l)
		if least < 0 && (p != 0 || side != 0 || e != api.ErrNone) || least >= 0 && (p != least || side != first || e != api.OK) {
			t.Errorf("%s: Least = %d, %d, error %d", c.name, p, side, e)
		}
	}
	// The bed that is open without wind is closed in a wind from where it leans to.
	if ok, _ := stack.Closed(crs(1000, 500, 300, 2, 0, 0, 1, 500, 300, 1, 681, 0), 0, 1, 0); !ok {
		t.Error("open in wind")
	}
}

// 2.3: of sides that have the same least wind the first one counts. A wind towards where the stack leans, and one across, open the same bed at the same pressure.
func TestLeastSide(t *testing.T) {
	for _, c := range []struct{ east, north, want int }{
		{0, 0, 0}, {300, 0, 1}, {0, 300, 0}, {-300, 0, 0}, {0, -300, 0},
		{200, 200, 2}, {-200, 200, 0}, {-200, -200, 0}, {200, -200, 1},
	} {
		l := crs(1000, 500, 300, 2000, 0, 0, 1000, 500, 300, 1000, c.east, c.north)
		p, side, e := stack.Least(l)
		if e != api.OK || side != c.want || p != mustSafe(t, l, side) {
			t.Errorf("leaning by %d, %d: Least = %d, %d, error %d", c.east, c.north, p, side, e)
		}
		for from := range 4 {
			if safe := mustSafe(t, l, from); safe < p || safe == p && from < side {
				t.Errorf("leaning by %d, %d: Least = %d, %d, but Safe from %d is %d", c.east, c.north, p, side, from, safe)
			}
		}
	}
}

// P2.3, P3: a bed that is closed holds.
func TestClosedHolds(t *testing.T) {
	r := random()
	closed := 0
	for range 3000 {
		l := pile(r, 1+r.IntN(4), 700)
		bed, p, side := r.IntN(len(l)), r.IntN(1000), r.IntN(4)
		ok, _ := stack.Closed(l, bed, p, side)
		holds, _ := stack.Holds(l, bed, p, side)
		if ok && !holds {
			t.Fatalf("bed %d of %v is closed, but does not hold", bed, l)
		}
		if ok {
			closed++
		}
	}
	if closed < 300 || closed > 2700 {
		t.Errorf("%d of 3000 beds are closed", closed)
	}
}

// P2.4, P3: in the Safe wind and all lesser ones all beds are closed, with a pascal more one is not.
func TestSafeIsGreatest(t *testing.T) {
	r := random()
	within, none := 0, 0
	for range 400 {
		l := pile(r, 1+r.IntN(6), []int{0, 100, 400}[r.IntN(3)])
		side := r.IntN(4)
		p := mustSafe(t, l, side)
		if p < 0 {
			none++
			if allClosed(l, 0, side) {
				t.Fatalf("Safe(%v, %d): none", l, side)
			}
			continue
		}
		for _, lesser := range []int{0, p / 3, max(p-1, 0), p} {
			open, e := stack.Open(l, lesser, side)
			if e != api.OK || len(open) != 0 || !allClosed(l, lesser, side) {
				t.Fatalf("Safe(%v, %d) = %d, but %d opens %v", l, side, p, lesser, open)
			}
		}
		if p == 10000 {
			continue
		}
		within++
		if open, _ := stack.Open(l, p+1, side); len(open) == 0 || allClosed(l, p+1, side) {
			t.Fatalf("Safe(%v, %d) = %d is not the greatest", l, side, p)
		}
	}
	if within < 100 || none < 20 {
		t.Errorf("%d stacks have a Safe wind below the greatest, %d none", within, none)
	}
}

// P2.5: a stack that is turned has its Safe winds turned with it; a shifted one has the same.
func TestSafeOfTurned(t *testing.T) {
	r := random()
	for range 100 {
		l := pile(r, 1+r.IntN(5), 200)
		shifted, e := stack.Shifted(l, r.IntN(9001)-4500, r.IntN(9001)-4500)
		wantErrno(t, "Shifted", e, api.OK)
		for quarters := range 4 {
			turned, e := stack.Turned(l, quarters)
			wantErrno(t, "Turned", e, api.OK)
			for side := range 4 {
				want := mustSafe(t, l, side)
				if p := mustSafe(t, turned, (side+quarters)%4); p != want {
					t.Fatalf("%v has %d from %d; turned by %d it has %d", l, want, side, quarters, p)
				}
				if p := mustSafe(t, shifted, side); p != want {
					t.Fatalf("%v has %d from %d; shifted it has %d", l, want, side, p)
				}
			}
		}
	}
}
