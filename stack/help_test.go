package stack_test

import (
	"math"
	"math/big"
	"math/rand/v2"
	"slices"
	"testing"

	"steeplejack/api"
	"steeplejack/stack"
)

// crs makes courses of sixes: a height, half the widths outside and inside, a weight, east and north.
func crs(n ...int) []api.Course {
	var l []api.Course
	for c := range slices.Chunk(n, 6) {
		l = append(l, api.Course{Height: c[0], Out: c[1], In: c[2], Weight: c[3], East: c[4], North: c[5]})
	}
	return l
}

// one is the course of the chapter's example.
func one() []api.Course { return crs(1000, 500, 300, 1000, 0, 0) }

// three is a stack whose courses differ in all numbers.
func three() []api.Course {
	return crs(2000, 900, 500, 5000, 10, -20, 1500, 700, 400, 3000, 30, 5, 1200, 600, 350, 2000, -8, 40)
}

// same makes a stack of n courses that are the same.
func same(n int, c api.Course) []api.Course { return slices.Repeat([]api.Course{c}, n) }

// tall makes a stack of n courses.
func tall(n int) []api.Course { return same(n, one()[0]) }

// huge is the stack with the greatest numbers: all but the lowest course are as far from it as can be.
func huge() []api.Course {
	l := same(60, api.Course{Height: 2000, Out: 5000, In: 4999, Weight: 1_000_000, East: 5000, North: 5000})
	l[0].East, l[0].North = -5000, -5000
	return l
}

func rat(n, d int) api.Ratio { return api.Ratio{N: n, D: d} }

// wild is numbers at which reckoning without care goes wrong.
var wild = []int{math.MinInt, math.MinInt + 1, -10_001, -1, 0, 1, 2, 500, 10_001, 1_000_001, math.MaxInt - 1, math.MaxInt}

// wrong is stacks that are not valid.
func wrong() [][]api.Course {
	return [][]api.Course{nil, {}, tall(61), crs(1000, 500, 500, 1000, 0, 0), crs(1000, 500, 300, 1000, 0, 0, 0, 500, 300, 1000, 0, 0)}
}

// random is the same numbers in each run.
func random() *rand.Rand { return rand.New(rand.NewPCG(3, 4)) }

// pile makes a random stack of n courses that lean by at most most.
func pile(r *rand.Rand, n, most int) []api.Course {
	l := make([]api.Course, n)
	for i := range l {
		out := 300 + r.IntN(4701)
		l[i] = api.Course{
			Height: 1 + r.IntN(2000),
			Out:    out,
			In:     r.IntN(out),
			Weight: 1 + r.IntN([]int{2000, 1_000_000}[r.IntN(2)]),
			East:   r.IntN(2*most+1) - most,
			North:  r.IntN(2*most+1) - most,
		}
	}
	return l
}

func frac(n, d int) *big.Rat { return big.NewRat(int64(n), int64(d)) }

// slowWeight is the weight above a bed, slowCentre its centre, as the chapter words them.
func slowWeight(l []api.Course, bed int) int {
	sum := 0
	for _, c := range l[bed:] {
		sum += c.Weight
	}
	return sum
}

func slowCentre(l []api.Course, bed int) (east, north *big.Rat) {
	east, north = new(big.Rat), new(big.Rat)
	for _, c := range l[bed:] {
		east.Add(east, frac(c.Weight*c.East, slowWeight(l, bed)))
		north.Add(north, frac(c.Weight*c.North, slowWeight(l, bed)))
	}
	return east, north
}

// slowMoment is the moment of a wind at a bed, course by course.
func slowMoment(l []api.Course, bed, p int) *big.Rat {
	sum, below := new(big.Rat), new(big.Rat)
	for _, c := range l[bed:] {
		force := frac(p*2*c.Out*c.Height, 1_000_000)
		middle := new(big.Rat).Add(below, frac(c.Height, 2))
		sum.Add(sum, force.Mul(force, middle))
		below.Add(below, frac(c.Height, 1))
	}
	return sum
}

// slowArm is the arm of a bed in a wind.
func slowArm(l []api.Course, bed, p, side int) (east, north *big.Rat) {
	east, north = slowCentre(l, bed)
	east.Sub(east, frac(l[bed].East, 1))
	north.Sub(north, frac(l[bed].North, 1))
	moved := slowMoment(l, bed, p)
	moved.Quo(moved, frac(slowWeight(l, bed)*981, 100))
	switch side {
	case 0:
		east.Sub(east, moved)
	case 1:
		north.Sub(north, moved)
	case 2:
		east.Add(east, moved)
	case 3:
		north.Add(north, moved)
	}
	return east, north
}

func slowClosed(l []api.Course, bed, p, side int) bool {
	east, north := slowArm(l, bed, p, side)
	c := l[bed]
	sum := new(big.Rat).Add(east.Abs(east), north.Abs(north))
	return sum.Mul(sum, frac(3*c.Out, 1)).Cmp(frac(c.Out*c.Out+c.In*c.In, 1)) <= 0
}

func slowHolds(l []api.Course, bed, p, side int) bool {
	east, north := slowArm(l, bed, p, side)
	out := frac(l[bed].Out, 1)
	return east.Abs(east).Cmp(out) <= 0 && north.Abs(north).Cmp(out) <= 0
}

func allClosed(l []api.Course, p, side int) bool {
	for bed := range l {
		if !slowClosed(l, bed, p, side) {
			return false
		}
	}
	return true
}

// isRatio reports whether a fraction is in lowest terms and is r.
func isRatio(got api.Ratio, r *big.Rat) bool {
	return r.Num().IsInt64() && r.Denom().IsInt64() && got == api.Ratio{N: int(r.Num().Int64()), D: int(r.Denom().Int64())}
}

func wantErrno(t *testing.T, what string, got, want api.Errno) {
	t.Helper()
	if got != want {
		t.Errorf("%s: error %d, want %d", what, got, want)
	}
}

func mustSafe(t *testing.T, l []api.Course, side int) int {
	t.Helper()
	p, e := stack.Safe(l, side)
	if e != api.OK && e != api.ErrNone || p < 0 || p > 10000 || e != api.OK && p != 0 {
		t.Fatalf("Safe(%v, %d) = %d, error %d", l, side, p, e)
	}
	if e == api.ErrNone {
		return -1
	}
	return p
}
