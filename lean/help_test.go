package lean_test

import (
	"math"
	"math/big"
	"math/rand/v2"
	"slices"
	"testing"

	"steeplejack/api"
	"steeplejack/lean"
)

// pts makes points of pairs of a height and an X.
func pts(n ...int) []api.Point {
	var l []api.Point
	for c := range slices.Chunk(n, 2) {
		l = append(l, api.Point{Height: c[0], X: c[1]})
	}
	return l
}

// mks makes marks of threes of a height, East and North.
func mks(n ...int) []api.Mark {
	var l []api.Mark
	for c := range slices.Chunk(n, 3) {
		l = append(l, api.Mark{Height: c[0], East: c[1], North: c[2]})
	}
	return l
}

func ln(a, b, d int) api.Line { return api.Line{A: a, B: b, D: d} }

func rat(n, d int) api.Ratio { return api.Ratio{N: n, D: d} }

// marks makes a valid survey of n marks, if n is from 1 to MaxMarks.
func marks(n int) []api.Mark {
	l := make([]api.Mark, n)
	for i := range l {
		l[i] = api.Mark{Height: 10 * i, East: i, North: -i}
	}
	return l
}

// wild is numbers at which reckoning without care goes wrong.
var wild = []int{math.MinInt, math.MinInt + 1, -1_000_000_000_001, -10_001, -1, 0, 1, 10_001, 200_001, 1_000_000_000_001, math.MaxInt - 1, math.MaxInt}

// random is the same numbers in each run.
func random() *rand.Rand { return rand.New(rand.NewPCG(1, 2)) }

// heap makes n random points with heights below 7 * n and X from -most to most.
func heap(r *rand.Rand, n, most int) []api.Point {
	hs := r.Perm(7 * n)[:n]
	slices.Sort(hs)
	l := make([]api.Point, n)
	for i, h := range hs {
		l[i] = api.Point{Height: h, X: r.IntN(2*most+1) - most}
	}
	return l
}

func bigRat(r api.Ratio) *big.Rat { return big.NewRat(int64(r.N), int64(r.D)) }

// over returns how far a point is above a line.
func over(x api.Line, p api.Point) *big.Rat {
	v := new(big.Rat).Add(big.NewRat(int64(x.A), int64(x.D)), new(big.Rat).Mul(big.NewRat(int64(x.B), int64(x.D)), big.NewRat(int64(p.Height), 1)))
	return v.Sub(big.NewRat(int64(p.X), 1), v)
}

// isRatio reports whether a fraction is in lowest terms and is r.
func isRatio(got api.Ratio, r *big.Rat) bool {
	return r.Num().IsInt64() && r.Denom().IsInt64() && got == api.Ratio{N: int(r.Num().Int64()), D: int(r.Denom().Int64())}
}

func wantErrno(t *testing.T, what string, got, want api.Errno) {
	t.Helper()
	if got != want {
		t.Errorf("%s: error %d, want %d", what, got, want)
	}
}

func mustNearest(t *testing.T, l []api.Point) api.Line {
	t.Helper()
	x, e := lean.Nearest(l)
	if e != api.OK || !lean.ValidLine(x) {
		t.Fatalf("Nearest(%v) = %v, error %d", l, x, e)
	}
	return x
}

func mustBend(t *testing.T, l []api.Point) api.Ratio {
	t.Helper()
	r, e := lean.Bend(l)
	if e != api.OK {
		t.Fatalf("Bend(%v): error %d", l, e)
	}
	return r
}
