package lean_test

import (
	"math"
	"math/big"
	"math/rand/v2"
	"slices"
	"testing"

	"steeplejack/api"
	"steeplejack/lean"
)

// bad is points that are not valid.
func bad() [][]api.Point {
	return [][]api.Point{nil, {}, pts(5, 0, 5, 0), pts(5, 0, 4, 0, 3, 0), pts(0, 0, 1, 0, 2, 10001), make([]api.Point, 41), pts(0, math.MinInt, 1, math.MaxInt, 2, 0)}
}

// heaps makes many lists of points: few and many, small and great numbers, on a line and at the bounds.
func heaps(r *rand.Rand) [][]api.Point {
	var all [][]api.Point
	for n := 1; n <= 8; n++ {
		for _, most := range []int{1, 4, 10000} {
			for range 12 {
				all = append(all, heap(r, n, most))
			}
		}
	}
	line := heap(r, 40, 0)
	for i := range line {
		line[i].X = 3*line[i].Height - 400
	}
	jump := pts(0, -10000, 1, 10000, 2, -10000, 199998, 10000, 199999, -10000, 200000, 10000)
	return append(all, heap(r, 40, 10000), heap(r, 40, 3), line, jump)
}

// leastGreatest returns the least greatest distance that a line can have: the best slope is that of some two points.
func leastGreatest(l []api.Point) *big.Rat {
	least := new(big.Rat)
	first := true
	for i, p := range l {
		for _, q := range l[i+1:] {
			slope := big.NewRat(int64(q.X-p.X), int64(q.Height-p.Height))
			var lo, hi *big.Rat
			for _, o := range l {
				v := new(big.Rat).Mul(slope, big.NewRat(int64(o.Height), 1))
				v.Sub(big.NewRat(int64(o.X), 1), v)
				if lo == nil || v.Cmp(lo) < 0 {
					lo = v
				}
				if hi == nil || v.Cmp(hi) > 0 {
					hi = v
				}
			}
			d := new(big.Rat).Sub(hi, lo)
			if d.Quo(d, big.NewRat(2, 1)); first || d.Cmp(least) < 0 {
				least, first = d, false
			}
		}
	}
	return least
}

// farOf returns the greatest distance of a line from points.
func farOf(x api.Line, l []api.Point) *big.Rat {
	far := new(big.Rat)
	for _, p := range l {
		if d := over(x, p); d.Abs(d).Cmp(far) > 0 {
			far = d
		}
	}
	return far
}

// shows reports whether three indexes are a proof, word by word as the chapter defines it.
func shows(x api.Line, l []api.Point, at [3]int) bool {
	d := farOf(x, l)
	var v [3]*big.Rat
	for i, n := range at {
		v[i] = over(x, l[n])
		if new(big.Rat).Abs(v[i]).Cmp(d) != 0 {
			return false
		}
	}
	up := v[1].Sign() > 0 && v[0].Sign() < 0 && v[2].Sign() < 0
	below := v[1].Sign() < 0 && v[0].Sign() > 0 && v[2].Sign() > 0
	return up || below || d.Sign() == 0
}

// firstProof returns the first proof for a line.
func firstProof(x api.Line, l []api.Point) ([3]int, bool) {
	for i := range l {
		for j := i + 1; j < len(l); j++ {
			for k := j + 1; k < len(l); k++ {
				if at := [3]int{i, j, k}; shows(x, l, at) {
					return at, true
				}
			}
		}
	}
	return [3]int{}, false
}

// 1.2: the chapter's example, and the cases with lines that one can see.
func TestNearest(t *testing.T) {
	for _, c := range []struct {
		name string
		l    []api.Point
		x    api.Line
		bend api.Ratio
	}{
		{"the example", pts(0, 0, 10, 0, 20, 6), ln(-15, 3, 10), rat(3, 2)},
		{"the example of the document", pts(0, 0, 1, 0, 2, 6), ln(-3, 6, 2), rat(3, 2)},
		{"one point", pts(7, -4), ln(-4, 0, 1), rat(0, 1)},
		{"one point at 0", pts(0, 0), ln(0, 0, 1), rat(0, 1)},
		{"two points", pts(0, 0, 3, 1), ln(0, 1, 3), rat(0, 1)},
		{"two points down", pts(2, 4, 4, 1), ln(14, -3, 2), rat(0, 1)},
		{"four on a line", pts(0, 0, 1, 1, 5, 5, 6, 6), ln(0, 1, 1), rat(0, 1)},
		{"all alike", pts(1, -9, 2, -9, 3, -9), ln(-9, 0, 1), rat(0, 1)},
		{"the outer three of four", pts(0, 0, 1, 0, 2, 0, 3, 4), ln(-4, 4, 3), rat(4, 3)},
		{"bent the other way", pts(0, 0, 10, 6, 20, 0), ln(3, 0, 1), rat(3, 1)},
		{"zigzag", pts(0, 1, 1, -1, 2, 1, 3, -1), ln(0, 0, 1), rat(1, 1)},
		{"bounds", pts(0, -10000, 1, 10000, 200000, -10000), ln(0, 0, 1), rat(10000, 1)},
	} {
		if x, e := lean.Nearest(c.l); e != api.OK || x != c.x {
			t.Errorf("%s: Nearest = %v, error %d", c.name, x, e)
		}
		if r, e := lean.Bend(c.l); e != api.OK || r != c.bend {
			t.Errorf("%s: Bend = %v, error %d", c.name, r, e)
		}
	}
	for _, l := range bad() {
		if x, e := lean.Nearest(l); e != api.ErrInvalid || x != (api.Line{}) {
			t.Errorf("Nearest(%v) = %v, error %d", l, x, e)
		}
		if r, e := lean.Bend(l); e != api.ErrInvalid || r != (api.Ratio{}) {
			t.Errorf("Bend(%v) = %v, error %d", l, r, e)
		}
		if at, e := lean.Proof(l); e != api.ErrInvalid || at != [3]int{} {
			t.Errorf("Proof(%v) = %v, error %d", l, at, e)
		}
	}
}

// P2 and P1.2: no line is nearer than Nearest, by a reckoning of its own; Bend is its greatest distance.
func TestNoLineIsNearer(t *testing.T) {
	r := random()
	for _, l := range heaps(r) {
		x := mustNearest(t, l)
		want := leastGreatest(l)
		if far := farOf(x, l); far.Cmp(want) != 0 {
			t.Fatalf("Nearest(%v) = %v with the distance %v, want %v", l, x, far, want)
		}
		if got := mustBend(t, l); !isRatio(got, want) {
			t.Fatalf("Bend(%v) = %v, want %v", l, got, want)
		}
		for range 20 {
			other, e := lean.Make(x.A*3+r.IntN(9)-4, x.B*3+r.IntN(9)-4, x.D*3)
			if e != api.OK || other == x {
				continue
			}
			if len(l) > 1 && farOf(other, l).Cmp(want) <= 0 {
				t.Fatalf("%v is as near to %v as Nearest, %v", other, l, x)
			}
		}
	}
}

// P1.2: Proof proves Nearest, and is the first that does; a line that has a proof is Nearest.
func TestProof(t *testing.T) {
	for _, l := range heaps(random()) {
		x := mustNearest(t, l)
		at, e := lean.Proof(l)
		if len(l) < 3 {
			if e != api.ErrNone || at != [3]int{} {
				t.Errorf("Proof(%v) = %v, error %d", l, at, e)
			}
			continue
		}
		if e != api.OK || !lean.Proves(x, l, at) {
			t.Fatalf("Proof(%v) = %v, error %d", l, at, e)
		}
		if first, ok := firstProof(x, l); !ok || first != at {
			t.Fatalf("Proof(%v) = %v, want %v", l, at, first)
		}
	}
}

// 1.2: of several proofs the first one, compared by i, then j, then k.
func TestFirstProof(t *testing.T) {
	for _, c := range []struct {
		l    []api.Point
		want [3]int
	}{
		{pts(0, 0, 1, 1, 5, 5, 6, 6), [3]int{0, 1, 2}},
		{pts(0, 1, 1, -1, 2, 1, 3, -1, 4, 1), [3]int{0, 1, 2}},
		{pts(0, 0, 1, 1, 2, -1, 3, 1, 4, -1), [3]int{1, 2, 3}},
		{pts(0, 1, 1, 1, 2, -1, 3, 0, 4, 1, 5, 1), [3]int{0, 2, 4}},
		{pts(0, 1, 2, -1, 3, -1, 5, 1), [3]int{0, 1, 3}},
	} {
		if at, e := lean.Proof(c.l); e != api.OK || at != c.want {
			t.Errorf("Proof(%v) = %v, error %d", c.l, at, e)
		}
	}
	for _, l := range [][]api.Point{pts(0, 0), pts(0, 0, 3, 1)} {
		if at, e := lean.Proof(l); e != api.ErrNone || at != [3]int{} {
			t.Errorf("Proof(%v) = %v, error %d", l, at, e)
		}
	}
}

// 1.2: what is a proof, for the nearest line and for others.
func TestProves(t *testing.T) {
	r := random()
	for _, l := range heaps(r) {
		if len(l) > 8 {
			continue
		}
		x := mustNearest(t, l)
		lines := []api.Line{x, ln(0, 0, 1), ln(1, 0, 2)}
		if up, e := lean.Make(x.A+1, x.B, x.D); e == api.OK {
			lines = append(lines, up)
		}
		for _, y := range lines {
			for i := range l {
				for j := range l {
					for k := range l {
						at := [3]int{i, j, k}
						want := i < j && j < k && shows(y, l, at)
						if got := lean.Proves(y, l, at); got != want {
							t.Fatalf("Proves(%v, %v, %v) = %v", y, l, at, got)
						}
						if want && y != x {
							t.Fatalf("%v has a proof for %v, but the nearest line is %v", y, l, x)
						}
					}
				}
			}
		}
	}
}

func TestProvesWrongArguments(t *testing.T) {
	l := pts(0, 0, 10, 0, 20, 6)
	x := ln(-15, 3, 10)
	if !lean.Proves(x, l, [3]int{0, 1, 2}) {
		t.Error("no proof")
	}
	for _, at := range [][3]int{{0, 2, 1}, {1, 0, 2}, {2, 1, 0}, {0, 0, 1}, {0, 1, 1}, {0, 1, 3}, {-1, 1, 2}, {0, 1, math.MaxInt}, {math.MinInt, 0, 1}, {}} {
		if lean.Proves(x, l, at) {
			t.Errorf("%v is a proof", at)
		}
	}
	if lean.Proves(ln(-30, 6, 20), l, [3]int{0, 1, 2}) {
		t.Error("a line that is not valid has a proof")
	}
	if lean.Proves(ln(0, 0, 1), pts(0, 0, 1, 0), [3]int{0, 1, 2}) {
		t.Error("two points have a proof")
	}
	for _, l := range bad() {
		if lean.Proves(ln(0, 0, 1), l, [3]int{0, 1, 2}) {
			t.Errorf("%v has a proof", l)
		}
	}
	// far enough at the three, but farther elsewhere
	if lean.Proves(ln(0, 0, 1), pts(0, 1, 1, -1, 2, 1, 3, 2), [3]int{0, 1, 2}) {
		t.Error("a proof beside a greater distance")
	}
}

// P1.3: with points left out the Bend is no greater; it is 0 exactly for points on a line.
func TestLeftOut(t *testing.T) {
	r := random()
	for _, l := range heaps(r) {
		bend := mustBend(t, l)
		for range 10 {
			some := slices.DeleteFunc(slices.Clone(l), func(api.Point) bool { return r.IntN(3) == 0 })
			if len(some) > 0 && lean.Compare(mustBend(t, some), bend) > 0 {
				t.Fatalf("%v bends more than %v", some, l)
			}
		}
		straight := true
		for _, p := range l {
			q, o := l[0], l[len(l)-1]
			straight = straight && (p.X-q.X)*(o.Height-q.Height) == (o.X-q.X)*(p.Height-q.Height)
		}
		if straight != (bend == rat(0, 1)) {
			t.Fatalf("Bend(%v) = %v", l, bend)
		}
	}
}

// P1.4: two or more points that are raised by a line of whole numbers.
func TestNearestRaised(t *testing.T) {
	r := random()
	for _, l := range heaps(r) {
		if len(l) < 2 {
			continue
		}
		y := ln(r.IntN(41)-20, r.IntN(7)-3, 1)
		raised, e := lean.Raised(l, y)
		if e == api.ErrLimit {
			continue
		}
		x := mustNearest(t, l)
		want, _ := lean.Make(x.A+y.A*x.D, x.B+y.B*x.D, x.D)
		if got := mustNearest(t, raised); got != want {
			t.Fatalf("Nearest(%v) = %v, want %v", raised, got, want)
		}
		if got := mustBend(t, raised); got != mustBend(t, l) {
			t.Fatalf("Bend(%v) = %v", raised, got)
		}
	}
}
