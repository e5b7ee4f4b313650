package stack_test

import (
	"math"
	"math/big"
	"testing"

	"steeplejack/api"
	"steeplejack/stack"
)

// 2.1: Valid.
func TestValid(t *testing.T) {
	for _, c := range []struct {
		name string
		l    []api.Course
		want bool
	}{
		{"nil", nil, false},
		{"empty", []api.Course{}, false},
		{"the example", one(), true},
		{"the least", crs(1, 1, 0, 1, -5000, -5000), true},
		{"the greatest", crs(2000, 5000, 4999, 1000000, 5000, 5000), true},
		{"height 0", crs(0, 500, 300, 1000, 0, 0), false},
		{"height too great", crs(2001, 500, 300, 1000, 0, 0), false},
		{"out 0", crs(1000, 0, 0, 1000, 0, 0), false},
		{"out too great", crs(1000, 5001, 300, 1000, 0, 0), false},
		{"in below 0", crs(1000, 500, -1, 1000, 0, 0), false},
		{"in 0", crs(1000, 500, 0, 1000, 0, 0), true},
		{"in is out", crs(1000, 500, 500, 1000, 0, 0), false},
		{"in is just below out", crs(1000, 500, 499, 1000, 0, 0), true},
		{"in above out", crs(1000, 500, 501, 1000, 0, 0), false},
		{"weight 0", crs(1000, 500, 300, 0, 0, 0), false},
		{"weight too great", crs(1000, 500, 300, 1000001, 0, 0), false},
		{"east too great", crs(1000, 500, 300, 1000, 5001, 0), false},
		{"east too little", crs(1000, 500, 300, 1000, -5001, 0), false},
		{"north too great", crs(1000, 500, 300, 1000, 0, 5001), false},
		{"north too little", crs(1000, 500, 300, 1000, 0, -5001), false},
		{"least integers", crs(math.MinInt, math.MinInt, math.MinInt, math.MinInt, math.MinInt, math.MinInt), false},
		{"last one wrong", crs(1000, 500, 300, 1000, 0, 0, 1000, 500, 300, 1000, 0, 5001), false},
		{"wider above", crs(1000, 500, 300, 1000, 0, 0, 1000, 600, 300, 1000, 0, 0), true},
		{"60", tall(60), true},
		{"61", tall(61), false},
	} {
		if got := stack.Valid(c.l); got != c.want {
			t.Errorf("%s: Valid = %v", c.name, got)
		}
	}
}

// 2.1: Height, Weight and Centre.
func TestHeight(t *testing.T) {
	for _, c := range []struct {
		l    []api.Course
		want int
	}{{one(), 1000}, {three(), 4700}, {huge(), 120000}} {
		if h, e := stack.Height(c.l); h != c.want || e != api.OK {
			t.Errorf("Height = %d, error %d", h, e)
		}
	}
}

func TestWeightAndCentre(t *testing.T) {
	for _, c := range []struct {
		name        string
		l           []api.Course
		bed, weight int
		east, north api.Ratio
	}{
		{"the example", one(), 0, 1000, rat(0, 1), rat(0, 1)},
		{"the foot", three(), 0, 10000, rat(62, 5), rat(-1, 2)},
		{"the middle", three(), 1, 5000, rat(74, 5), rat(19, 1)},
		{"the top", three(), 2, 2000, rat(-8, 1), rat(40, 1)},
		{"the greatest weight", huge(), 0, 60_000_000, rat(14500, 3), rat(14500, 3)},
		{"below 0", crs(1, 2, 1, 3, -1, -2, 1, 2, 1, 4, 0, 0), 0, 7, rat(-3, 7), rat(-6, 7)},
	} {
		if w, e := stack.Weight(c.l, c.bed); w != c.weight || e != api.OK {
			t.Errorf("%s: Weight = %d, error %d", c.name, w, e)
		}
		if x, y, e := stack.Centre(c.l, c.bed); x != c.east || y != c.north || e != api.OK {
			t.Errorf("%s: Centre = %v, %v, error %d", c.name, x, y, e)
		}
	}
}

// 2.1 and the example: Moment and Arm.
func TestMomentAndArm(t *testing.T) {
	for _, c := range []struct {
		name         string
		l            []api.Course
		bed, p, side int
		moment       api.Ratio
		east, north  api.Ratio
	}{
		{"from the east", one(), 0, 100, 0, rat(50000, 1), rat(-5000, 981), rat(0, 1)},
		{"from the north", one(), 0, 100, 1, rat(50000, 1), rat(0, 1), rat(-5000, 981)},
		{"from the west", one(), 0, 100, 2, rat(50000, 1), rat(5000, 981), rat(0, 1)},
		{"from the south", one(), 0, 100, 3, rat(50000, 1), rat(0, 1), rat(5000, 981)},
		{"without wind", one(), 0, 0, 3, rat(0, 1), rat(0, 1), rat(0, 1)},
		{"leaning, without wind", three(), 0, 0, 2, rat(0, 1), rat(12, 5), rat(39, 2)},
		{"the middle bed, without wind", three(), 1, 0, 0, rat(0, 1), rat(-76, 5), rat(14, 1)},
		{"the top bed, without wind", three(), 2, 0, 1, rat(0, 1), rat(0, 1), rat(0, 1)},
		{"a part of a newton", crs(1, 1, 0, 1, 7, 7), 0, 1, 2, rat(1, 1000000), rat(1, 9810000), rat(0, 1)},
		{"two courses", crs(1000, 500, 300, 981, 0, 0, 2000, 250, 100, 981, 0, 0), 0, 100, 1, rat(250000, 1), rat(0, 1), rat(-12500000, 962361)},
	} {
		if m, e := stack.Moment(c.l, c.bed, c.p); m != c.moment || e != api.OK {
			t.Errorf("%s: Moment = %v, error %d", c.name, m, e)
		}
		if x, y, e := stack.Arm(c.l, c.bed, c.p, c.side); x != c.east || y != c.north || e != api.OK {
			t.Errorf("%s: Arm = %v, %v, error %d", c.name, x, y, e)
		}
	}
}

// checkBed compares what is told of a bed with what the chapter's words make.
func checkBed(t *testing.T, l []api.Course, bed, p, side int) {
	t.Helper()
	if w, e := stack.Weight(l, bed); w != slowWeight(l, bed) || e != api.OK {
		t.Fatalf("Weight(%v, %d) = %d, error %d", l, bed, w, e)
	}
	east, north := slowCentre(l, bed)
	if x, y, e := stack.Centre(l, bed); !isRatio(x, east) || !isRatio(y, north) || e != api.OK {
		t.Fatalf("Centre(%v, %d) = %v, %v, error %d", l, bed, x, y, e)
	}
	if m, e := stack.Moment(l, bed, p); !isRatio(m, slowMoment(l, bed, p)) || e != api.OK {
		t.Fatalf("Moment(%v, %d, %d) = %v, error %d", l, bed, p, m, e)
	}
	east, north = slowArm(l, bed, p, side)
	if x, y, e := stack.Arm(l, bed, p, side); !isRatio(x, east) || !isRatio(y, north) || e != api.OK {
		t.Fatalf("Arm(%v, %d, %d, %d) = %v, %v, error %d", l, bed, p, side, x, y, e)
	}
	if ok, e := stack.Closed(l, bed, p, side); ok != slowClosed(l, bed, p, side) || e != api.OK {
		t.Fatalf("Closed(%v, %d, %d, %d) = %v, error %d", l, bed, p, side, ok, e)
	}
	if ok, e := stack.Holds(l, bed, p, side); ok != slowHolds(l, bed, p, side) || e != api.OK {
		t.Fatalf("Holds(%v, %d, %d, %d) = %v, error %d", l, bed, p, side, ok, e)
	}
}

// 2.1, 2.2: all that is told of beds is exact, also with the greatest numbers.
func TestBeds(t *testing.T) {
	r := random()
	for range 60 {
		l := pile(r, 1+r.IntN(60), []int{0, 300, 5000}[r.IntN(3)])
		for bed := range l {
			checkBed(t, l, bed, r.IntN(10001), r.IntN(4))
		}
	}
	for side := range 4 {
		turned, _ := stack.Turned(huge(), side)
		for bed := range turned {
			checkBed(t, huge(), bed, 10000, side)
			checkBed(t, turned, bed, 10000, side)
		}
	}
}

// 2.1 to 2.3: the errors, in their order.
func TestErrors(t *testing.T) {
	type query struct{ bed, p, side int }
	for _, c := range []struct {
		name  string
		l     []api.Course
		q     query
		want  api.Errno
		whose string // w of Weight and Centre, m of Moment, b of those about a bed, s of those about a stack, f of Safe
	}{
		{"bed -1", one(), query{-1, 0, 0}, api.ErrRange, "wmb"},
		{"bed too great", one(), query{1, 0, 0}, api.ErrRange, "wmb"},
		{"the least bed", one(), query{math.MinInt, 0, 0}, api.ErrRange, "wmb"},
		{"p -1", one(), query{0, -1, 0}, api.ErrRange, "mbs"},
		{"p too great", one(), query{0, 10001, 0}, api.ErrRange, "mbs"},
		{"side -1 without wind", one(), query{0, 0, -1}, api.ErrRange, "bsf"},
		{"side 4", one(), query{0, 1, 4}, api.ErrRange, "bsf"},
		{"side 4 of a stack that falls", crs(1000, 500, 300, 1, 0, 0, 1000, 500, 300, 1000, 5000, 0), query{0, 0, 4}, api.ErrRange, "bsf"},
	} {
		checkErrors(t, c.name, c.l, c.q.bed, c.q.p, c.q.side, c.want, c.whose)
	}
	for _, l := range wrong() {
		checkErrors(t, "not valid", l, 0, 0, 0, api.ErrInvalid, "wmbsf")
		checkErrors(t, "not valid, out of range", l, -1, -1, 4, api.ErrInvalid, "wmbsf")
		h, e := stack.Height(l)
		if h != 0 || e != api.ErrInvalid {
			t.Errorf("Height = %d, error %d", h, e)
		}
		if p, side, e := stack.Least(l); p != 0 || side != 0 || e != api.ErrInvalid {
			t.Errorf("Least = %d, %d, error %d", p, side, e)
		}
	}
}

func checkErrors(t *testing.T, name string, l []api.Course, bed, p, side int, want api.Errno, whose string) {
	t.Helper()
	for _, c := range whose {
		switch c {
		case 'w':
			w, e := stack.Weight(l, bed)
			x, y, e2 := stack.Centre(l, bed)
			if w != 0 || x != (api.Ratio{}) || y != x || e != want || e2 != want {
				t.Errorf("%s: Weight or Centre: %d, %v, %v, errors %d, %d", name, w, x, y, e, e2)
			}
		case 'm':
			if m, e := stack.Moment(l, bed, p); m != (api.Ratio{}) || e != want {
				t.Errorf("%s: Moment = %v, error %d", name, m, e)
			}
		case 'b':
			x, y, e := stack.Arm(l, bed, p, side)
			closed, e2 := stack.Closed(l, bed, p, side)
			holds, e3 := stack.Holds(l, bed, p, side)
			if x != (api.Ratio{}) || y != x || closed || holds || e != want || e2 != want || e3 != want {
				t.Errorf("%s: Arm, Closed or Holds: %v, %v, %v, %v, errors %d, %d, %d", name, x, y, closed, holds, e, e2, e3)
			}
		case 's':
			open, e := stack.Open(l, p, side)
			stands, e2 := stack.Stands(l, p, side)
			falls, e3 := stack.Falls(l, p, side)
			if len(open) != 0 || stands || falls != 0 || e != want || e2 != want || e3 != want {
				t.Errorf("%s: Open, Stands or Falls: %v, %v, %d, errors %d, %d, %d", name, open, stands, falls, e, e2, e3)
			}
		case 'f':
			if p, e := stack.Safe(l, side); p != 0 || e != want {
				t.Errorf("%s: Safe = %d, error %d", name, p, e)
			}
		}
	}
}

// P2.2: the weight and the centre above a bed are those of the course and of what is above the next bed, put together; moments grow with the pressure, in proportion.
func TestWeights(t *testing.T) {
	r := random()
	for range 40 {
		l := pile(r, 2+r.IntN(59), 5000)
		for bed, c := range l[:len(l)-1] {
			w, _ := stack.Weight(l, bed)
			rest, _ := stack.Weight(l, bed+1)
			x, y, _ := stack.Centre(l, bed)
			restX, restY, e := stack.Centre(l, bed+1)
			if e != api.OK || w != c.Weight+rest || !isMean(x, c.East, c.Weight, restX, rest) || !isMean(y, c.North, c.Weight, restY, rest) {
				t.Fatalf("bed %d of %v: %d, %v, %v", bed, l, w, x, y)
			}
			single, _ := stack.Moment(l, bed, 1)
			p := 1 + r.IntN(10000)
			m, e := stack.Moment(l, bed, p)
			if e != api.OK || !isRatio(m, new(big.Rat).Mul(frac(single.N, single.D), frac(p, 1))) {
				t.Fatalf("bed %d of %v: Moment of %d = %v, of 1 = %v", bed, l, p, m, single)
			}
		}
	}
}

// isMean reports whether r is the place of a weight and a rest together.
func isMean(r api.Ratio, place, weight int, rest api.Ratio, restWeight int) bool {
	sum := new(big.Rat).Mul(frac(rest.N, rest.D), frac(restWeight, 1))
	sum.Add(sum, frac(place*weight, 1))
	return isRatio(r, sum.Quo(sum, frac(weight+restWeight, 1)))
}
