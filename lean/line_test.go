package lean_test

import (
	"math"
	"math/big"
	"math/rand/v2"
	"slices"
	"testing"

	"steeplejack/api"
	"steeplejack/lean"
)

const (
	e12 = 1_000_000_000_000
	e17 = 100_000_000_000_000_000
)

// 1.1: lines.
func TestValidLine(t *testing.T) {
	for _, c := range []struct {
		x    api.Line
		want bool
	}{
		{ln(0, 0, 1), true},
		{ln(0, 0, 0), false},
		{ln(0, 0, 2), false},
		{ln(1, 0, -1), false},
		{ln(1, 0, e12), true},
		{ln(1, 0, e12+1), false},
		{ln(0, 1, e12), true},
		{ln(e17, 0, 1), true},
		{ln(-e17, 0, 1), true},
		{ln(e17+1, 0, 1), false},
		{ln(-e17-1, 0, 1), false},
		{ln(0, e12, 1), true},
		{ln(0, -e12, 1), true},
		{ln(0, e12+1, 1), false},
		{ln(0, -e12-1, 1), false},
		{ln(-6, 4, 2), false},
		{ln(6, -10, 15), true},
		{ln(6, -12, 15), false},
		{ln(7, 0, 7), false},
		{ln(math.MinInt, 0, 1), false},
		{ln(0, math.MinInt, 1), false},
		{ln(1, 1, math.MinInt), false},
	} {
		if got := lean.ValidLine(c.x); got != c.want {
			t.Errorf("ValidLine(%v) = %v", c.x, got)
		}
	}
}

func TestMake(t *testing.T) {
	for _, c := range []struct {
		a, b, d int
		want    api.Line
	}{
		{-6, 4, 2, ln(-3, 2, 1)},
		{6, -12, 15, ln(2, -4, 5)},
		{0, 0, 12, ln(0, 0, 1)},
		{0, 4, 6, ln(0, 2, 3)},
		{4, 0, 6, ln(2, 0, 3)},
		{e17, e12, e12, ln(100000, 1, 1)},
		{-e17, -e12, e12, ln(-100000, -1, 1)},
		{e17 - 1, 0, 1, ln(e17-1, 0, 1)},
	} {
		if x, e := lean.Make(c.a, c.b, c.d); e != api.OK || x != c.want {
			t.Errorf("Make(%d, %d, %d) = %v, error %d", c.a, c.b, c.d, x, e)
		}
	}
	for _, x := range []api.Line{ln(e17+1, 0, 1), ln(-e17-1, 0, 1), ln(0, e12+1, 1), ln(0, -e12-1, 1), ln(0, 0, 0), ln(1, 1, -1), ln(0, 0, e12+1), ln(math.MinInt, math.MinInt, math.MinInt)} {
		if got, e := lean.Make(x.A, x.B, x.D); e != api.ErrRange || got != (api.Line{}) {
			t.Errorf("Make(%v) = %v, error %d", x, got, e)
		}
	}
}

func TestThrough(t *testing.T) {
	for _, c := range []struct {
		p, q api.Point
		want api.Line
	}{
		{api.Point{Height: 10, X: 5}, api.Point{Height: 4, X: 1}, ln(-5, 2, 3)},
		{api.Point{Height: 0, X: 3}, api.Point{Height: 9, X: 3}, ln(3, 0, 1)},
		{api.Point{Height: 2, X: 4}, api.Point{Height: 3, X: 2}, ln(8, -2, 1)},
		{api.Point{Height: 199999, X: 10000}, api.Point{Height: 200000, X: -10000}, ln(10000+20000*199999, -20000, 1)},
	} {
		for range 2 {
			if x, e := lean.Through(c.p, c.q); e != api.OK || x != c.want {
				t.Errorf("Through(%v, %v) = %v, error %d", c.p, c.q, x, e)
			}
			c.p, c.q = c.q, c.p
		}
	}
	same := api.Point{Height: 4, X: 1}
	for _, c := range []struct {
		p, q api.Point
		want api.Errno
	}{
		{same, same, api.ErrState},
		{same, api.Point{Height: 4, X: 2}, api.ErrState},
		{same, api.Point{Height: 4, X: 10001}, api.ErrInvalid},
		{api.Point{Height: 4, X: -10001}, same, api.ErrInvalid},
		{api.Point{Height: -1}, same, api.ErrInvalid},
		{same, api.Point{Height: 200001}, api.ErrInvalid},
	} {
		if x, e := lean.Through(c.p, c.q); e != c.want || x != (api.Line{}) {
			t.Errorf("Through(%v, %v) = %v, error %d", c.p, c.q, x, e)
		}
	}
}

func TestAt(t *testing.T) {
	for _, c := range []struct {
		x      api.Line
		height int
		want   api.Ratio
	}{
		{ln(-5, 2, 3), 1, rat(-1, 1)},
		{ln(-5, 2, 3), 0, rat(-5, 3)},
		{ln(-6, 2, 5), 3, rat(0, 1)},
		{ln(1, 1, 10), 5, rat(3, 5)},
		{ln(e17, e12, 1), 200000, rat(3*e17, 1)},
		{ln(-e17, -e12, e12-1), 200000, rat(-e17, (e12-1)/3)},
	} {
		if got, e := lean.At(c.x, c.height); e != api.OK || got != c.want {
			t.Errorf("At(%v, %d) = %v, error %d", c.x, c.height, got, e)
		}
	}
	for _, c := range []struct {
		x      api.Line
		height int
		want   api.Errno
	}{
		{ln(0, 0, 1), -1, api.ErrRange},
		{ln(0, 0, 1), 200001, api.ErrRange},
		{ln(0, 0, 1), math.MinInt, api.ErrRange},
		{ln(0, 0, 0), 0, api.ErrInvalid},
		{ln(2, 2, 2), -1, api.ErrInvalid},
	} {
		if r, e := lean.At(c.x, c.height); e != c.want || r != (api.Ratio{}) {
			t.Errorf("At(%v, %d) = %v, error %d", c.x, c.height, r, e)
		}
	}
}

// randomLine makes a valid line whose numbers may reach the bounds.
func randomLine(r *rand.Rand) api.Line {
	scale := []int{10, 1000, e12}[r.IntN(3)]
	x, _ := lean.Make((r.IntN(2*scale+1)-scale)*[]int{1, 100000}[r.IntN(2)], r.IntN(2*scale+1)-scale, 1+r.IntN(scale))
	return x
}

func TestDistance(t *testing.T) {
	if r, e := lean.Distance(ln(-5, 2, 3), api.Point{X: 1}); e != api.OK || r != rat(8, 3) {
		t.Errorf("Distance = %v, error %d", r, e)
	}
	if r, e := lean.Distance(ln(-5, 2, 3), api.Point{Height: 4, X: 1}); e != api.OK || r != rat(0, 1) {
		t.Errorf("Distance = %v, error %d", r, e)
	}
	r := random()
	for range 2000 {
		x := randomLine(r)
		p := api.Point{Height: r.IntN(200001), X: r.IntN(20001) - 10000}
		want := over(x, p)
		if got, e := lean.Distance(x, p); e != api.OK || !isRatio(got, want.Abs(want)) {
			t.Fatalf("Distance(%v, %v) = %v, error %d, want %v", x, p, got, e, want)
		}
	}
	for _, p := range []api.Point{{Height: -1}, {Height: 200001}, {X: 10001}, {X: -10001}, {X: math.MinInt}} {
		if r, e := lean.Distance(ln(0, 0, 1), p); e != api.ErrInvalid || r != (api.Ratio{}) {
			t.Errorf("Distance of %v = %v, error %d", p, r, e)
		}
	}
	if r, e := lean.Distance(ln(0, 0, 2), api.Point{}); e != api.ErrInvalid || r != (api.Ratio{}) {
		t.Errorf("Distance = %v, error %d", r, e)
	}
}

func TestWorst(t *testing.T) {
	for _, c := range []struct {
		x    api.Line
		l    []api.Point
		i    int
		want api.Ratio
	}{
		{ln(0, 0, 1), pts(0, 0, 10, 0, 20, 6), 2, rat(6, 1)},
		{ln(0, 0, 1), pts(0, 1, 10, -6, 20, 6), 1, rat(6, 1)}, // the first of two
		{ln(1, 0, 2), pts(0, 0, 10, 1), 0, rat(1, 2)},
		{ln(0, 1, 1), pts(3, 3, 10, 10, 20, 20), 0, rat(0, 1)}, // through all
		{ln(-e17, -e12, 1), pts(0, 0, 200000, 10000), 1, rat(3*e17+10000, 1)},
	} {
		if i, r, e := lean.Worst(c.x, c.l); e != api.OK || i != c.i || r != c.want {
			t.Errorf("Worst(%v, %v) = %d, %v, error %d", c.x, c.l, i, r, e)
		}
	}
	r := random()
	for range 300 {
		x, l := randomLine(r), heap(r, 1+r.IntN(40), 10)
		at, want := -1, big.NewRat(-1, 1)
		for i, p := range l {
			if d := over(x, p); d.Abs(d).Cmp(want) > 0 {
				at, want = i, d
			}
		}
		if i, d, e := lean.Worst(x, l); e != api.OK || i != at || !isRatio(d, want) {
			t.Fatalf("Worst(%v, %v) = %d, %v, error %d", x, l, i, d, e)
		}
	}
	for _, c := range []struct {
		x api.Line
		l []api.Point
	}{{ln(0, 0, 1), nil}, {ln(0, 0, 1), pts(5, 0, 5, 0)}, {ln(0, 0, 0), pts(0, 0)}} {
		if i, r, e := lean.Worst(c.x, c.l); e != api.ErrInvalid || i != 0 || r != (api.Ratio{}) {
			t.Errorf("Worst(%v, %v) = %d, %v, error %d", c.x, c.l, i, r, e)
		}
	}
}

// 1.4: the value is rounded down before it is added.
func TestRaised(t *testing.T) {
	for _, c := range []struct {
		l    []api.Point
		x    api.Line
		want []api.Point
	}{
		{pts(0, 0, 10, 0, 20, 6), ln(-1, 1, 2), pts(0, -1, 10, 4, 20, 15)},
		{pts(0, 5, 3, 5), ln(-9, 0, 10), pts(0, 4, 3, 4)},
		{pts(0, 5, 3, 5), ln(9, 0, 10), pts(0, 5, 3, 5)},
		{pts(0, 0, 1, 0, 2, 0, 3, 0), ln(0, -1, 3), pts(0, 0, 1, -1, 2, -1, 3, -1)},
		{pts(0, 0, 10, 10000), ln(10000, -1000, 1), pts(0, 10000, 10, 10000)},
		{pts(0, -10000), ln(20000, 0, 1), pts(0, 10000)},
		{pts(0, 10000), ln(-20000, 0, 1), pts(0, -10000)},
	} {
		if p, e := lean.Raised(c.l, c.x); e != api.OK || !slices.Equal(p, c.want) {
			t.Errorf("Raised(%v, %v) = %v, error %d", c.l, c.x, p, e)
		}
	}
	for _, c := range []struct {
		l    []api.Point
		x    api.Line
		want api.Errno
	}{
		{nil, ln(0, 0, 1), api.ErrInvalid},
		{pts(5, 0, 4, 0), ln(10001, 0, 1), api.ErrInvalid},
		{pts(5, 0), ln(0, 0, 2), api.ErrInvalid},
		{pts(0, 0, 10, 6), ln(9995, 0, 1), api.ErrLimit},
		{pts(0, 0, 10, 6), ln(-10001, 0, 1), api.ErrLimit},
		{pts(0, -10000), ln(-1, 0, 10), api.ErrLimit}, // rounded down
		{pts(200000, 0), ln(e17, e12, 1), api.ErrLimit},
		{pts(200000, 0), ln(-e17, -e12, 1), api.ErrLimit},
	} {
		if p, e := lean.Raised(c.l, c.x); e != c.want || len(p) != 0 {
			t.Errorf("Raised(%v, %v) = %v, error %d", c.l, c.x, p, e)
		}
	}
}

// 1.4: exact for all numbers.
func TestCompare(t *testing.T) {
	for _, c := range []struct {
		a, b api.Ratio
		want int
	}{
		{rat(1, 3), rat(2, 6), 0},
		{rat(1, 2), rat(1, 3), 1},
		{rat(-1, 2), rat(-1, 3), -1},
		{rat(-1, 5), rat(1, 5), -1},
		{rat(0, 5), rat(0, -5), 0},
		{rat(math.MaxInt, math.MaxInt-1), rat(math.MaxInt-1, math.MaxInt-2), -1},
		{rat(math.MinInt, 1), rat(math.MinInt+1, 1), -1},
		{rat(math.MinInt, math.MaxInt), rat(-1, 1), -1},
		{rat(math.MinInt, math.MaxInt), rat(math.MaxInt, math.MaxInt), -1},
		{rat(3, 0), rat(3, 1), 0},
		{rat(3, -7), rat(3, 1), 0},
		{rat(3, math.MinInt), rat(2, 1), 1},
	} {
		if got := lean.Compare(c.a, c.b); got != c.want {
			t.Errorf("Compare(%v, %v) = %d", c.a, c.b, got)
		}
		if got := lean.Compare(c.b, c.a); got != -c.want {
			t.Errorf("Compare(%v, %v) = %d", c.b, c.a, got)
		}
	}
	numbers := slices.Concat(wild, []int{2, 3, math.MaxInt / 2, math.MinInt / 2, 1 << 32, 1<<32 + 1, 1<<32 - 1})
	positive := func(d int) int { return max(d, 1) }
	for _, a := range numbers {
		for _, b := range numbers {
			for _, c := range numbers {
				for _, d := range numbers {
					want := bigRat(rat(a, positive(b))).Cmp(bigRat(rat(c, positive(d))))
					if got := lean.Compare(rat(a, b), rat(c, d)); got != want {
						t.Fatalf("Compare(%d/%d, %d/%d) = %d, want %d", a, b, c, d, got, want)
					}
				}
			}
		}
	}
}
