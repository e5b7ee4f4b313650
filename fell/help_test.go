package fell_test

import (
	"math"
	"math/big"
	"math/rand/v2"
	"slices"
	"testing"

	"steeplejack/api"
	"steeplejack/fell"
)

func sp(x, y int) api.Spot { return api.Spot{X: x, Y: y} }

// sps makes spots of pairs.
func sps(n ...int) []api.Spot {
	var l []api.Spot
	for p := range slices.Chunk(n, 2) {
		l = append(l, sp(p[0], p[1]))
	}
	return l
}

// props makes props of brick at spots of pairs.
func props(n ...int) []api.Prop {
	var l []api.Prop
	for _, s := range sps(n...) {
		l = append(l, api.Prop{At: s})
	}
	return l
}

// wooden makes props of wood.
func wooden(n ...int) []api.Prop {
	l := props(n...)
	for i := range l {
		l[i].Wood = true
	}
	return l
}

// row makes n props beside each other.
func row(n int) []api.Prop {
	var l []api.Prop
	for i := range n {
		l = append(l, props(i, 0)...)
	}
	return l
}

// example is the props of the chapter's example; its weight is at 2 2.
func example() []api.Prop { return props(0, 0, 10, 0, 0, 10) }

// square has a prop at each corner, and one in the middle.
func square() []api.Prop { return props(0, 0, 10, 0, 10, 10, 0, 10, 5, 5) }

func zone(footX, footY, toX, toY, reach, wide int) api.Zone {
	return api.Zone{Foot: sp(footX, footY), To: sp(toX, toY), Reach: reach, Wide: wide}
}

// exampleZone is the zone of the chapter's example.
func exampleZone() api.Zone { return zone(0, 0, 10, 0, 100, 200) }

// wild is numbers at which reckoning without care goes wrong.
var wild = []int{math.MinInt, math.MinInt + 1, -10_001, -10_000, -1, 0, 1, 2, 1001, 10_000, 20_001, math.MaxInt - 1, math.MaxInt}

// notSpots is spots that are out of range.
func notSpots() []api.Spot {
	return sps(10_001, 0, -10_001, 0, 0, 10_001, 0, -10_001, math.MinInt, 0, 0, math.MaxInt, math.MaxInt, math.MinInt)
}

// notThings is things, and so ways, that are out of range.
func notThings() [][]api.Spot {
	l := [][]api.Spot{make([]api.Spot, 41)}
	for _, s := range notSpots() {
		l = append(l, []api.Spot{s}, []api.Spot{sp(90, 90), s})
	}
	return l
}

// wrongProps is props that are not valid.
func wrongProps() [][]api.Prop {
	l := [][]api.Prop{
		row(25),
		make([]api.Prop, 2),
		props(1, 2, 3, 4, 1, 2),
		append(props(1, 2), wooden(1, 2)...),
		append(row(24), props(0, 0)...),
	}
	for _, s := range notSpots() {
		l = append(l, []api.Prop{{At: s}}, append(example(), api.Prop{At: s, Wood: true}))
	}
	return l
}

// wrongZones is zones that are not valid.
func wrongZones() []api.Zone {
	l := []api.Zone{
		{},
		zone(0, 0, 0, 0, 100, 200),
		zone(7, -7, 7, -7, 100, 200),
		zone(0, 0, 10, 0, 0, 200),
		zone(0, 0, 10, 0, -1, 200),
		zone(0, 0, 10, 0, 20_001, 200),
		zone(0, 0, 10, 0, math.MinInt, 200),
		zone(0, 0, 10, 0, math.MaxInt, 200),
		zone(0, 0, 10, 0, 100, -1),
		zone(0, 0, 10, 0, 100, 1001),
		zone(0, 0, 10, 0, 100, math.MinInt),
		zone(0, 0, 10, 0, 100, math.MaxInt),
	}
	for _, s := range notSpots() {
		l = append(l, api.Zone{Foot: s, Reach: 1}, api.Zone{To: s, Reach: 1})
	}
	return l
}

// random is the same numbers in each run.
func random() *rand.Rand { return rand.New(rand.NewPCG(6, 17)) }

func randomSpot(r *rand.Rand, most int) api.Spot {
	return sp(r.IntN(2*most+1)-most, r.IntN(2*most+1)-most)
}

func randomSpots(r *rand.Rand, n, most int) []api.Spot {
	l := make([]api.Spot, n)
	for i := range l {
		l[i] = randomSpot(r, most)
	}
	return l
}

// randomProps makes at most n props at most so far from 0 0.
func randomProps(r *rand.Rand, n, most int) []api.Prop {
	var l []api.Prop
	for range n {
		p := api.Prop{At: randomSpot(r, most), Wood: r.IntN(2) == 0}
		if !slices.ContainsFunc(l, func(q api.Prop) bool { return q.At == p.At }) {
			l = append(l, p)
		}
	}
	return l
}

// scale is how far random spots are from 0 0: on small grids many are on a line.
func scale(r *rand.Rand) int { return []int{1, 2, 4, 10_000}[r.IntN(4)] }

// places is the spots of props.
func places(l []api.Prop) []api.Spot {
	var s []api.Spot
	for _, p := range l {
		s = append(s, p.At)
	}
	return s
}

// way is the way from one spot to another.
func way(a, b api.Spot) api.Spot { return sp(b.X-a.X, b.Y-a.Y) }

func dot(v, w api.Spot) int { return v.X*w.X + v.Y*w.Y }

// turn is above 0 if the way from a to b to c turns left, and 0 if they are on a line.
func turn(a, b, c api.Spot) int {
	v, w := way(a, b), way(b, c)
	return v.X*w.Y - v.Y*w.X
}

// slowBetween reports whether s is on the line from a to b.
func slowBetween(a, b, s api.Spot) bool { return turn(a, b, s) == 0 && dot(way(s, a), way(s, b)) <= 0 }

// slowOver reports whether s is in the hull of spots: between two of them, or in the triangle of three.
func slowOver(l []api.Spot, s api.Spot) bool {
	for i, a := range l {
		for j, b := range l[:i+1] {
			if slowBetween(a, b, s) {
				return true
			}
			for _, c := range l[:j] {
				side := turn(a, b, c)
				if x, y, z := turn(a, b, s), turn(b, c, s), turn(c, a, s); side > 0 && min(x, y, z) >= 0 || side < 0 && max(x, y, z) <= 0 {
					return true
				}
			}
		}
	}
	return false
}

func slowStands(l []api.Prop, weight api.Spot) bool { return slowOver(places(l), weight) }

// slowCorners is the spots that are not in the hull of the others.
func slowCorners(l []api.Spot) []api.Spot {
	var corners []api.Spot
	for i, s := range l {
		if !slowOver(slices.Concat(l[:i], l[i+1:]), s) {
			corners = append(corners, s)
		}
	}
	return corners
}

// vector is a way of fractions.
type vector struct{ x, y *big.Rat }

func (v vector) length2() *big.Rat {
	x, y := new(big.Rat).Mul(v.x, v.x), new(big.Rat).Mul(v.y, v.y)
	return x.Add(x, y)
}

func frac(n, d int) *big.Rat { return big.NewRat(int64(n), int64(d)) }

// slowFrom is the way to s from the nearest spot of the line from a to b.
func slowFrom(a, b, s api.Spot) vector {
	side, at := way(a, b), new(big.Rat)
	if a != b {
		at = frac(min(max(dot(side, way(a, s)), 0), dot(side, side)), dot(side, side))
	}
	part := func(to, side int) *big.Rat {
		along := new(big.Rat).Mul(at, frac(side, 1))
		return along.Sub(frac(to, 1), along)
	}
	return vector{part(s.X-a.X, side.X), part(s.Y-a.Y, side.Y)}
}

// slowWay is the way to s, which is not in the hull of spots, from the nearest spot of it.
func slowWay(l []api.Spot, s api.Spot) vector {
	var best vector
	for i, a := range l {
		for _, b := range l[:i+1] {
			if v := slowFrom(a, b, s); best.x == nil || v.length2().Cmp(best.length2()) < 0 {
				best = v
			}
		}
	}
	return best
}

// shortest is the shortest way of whole numbers in a direction.
func (v vector) shortest() api.Spot {
	d := new(big.Rat).SetInt(new(big.Int).Mul(v.x.Denom(), v.y.Denom()))
	x, y := new(big.Rat).Mul(v.x, d).Num(), new(big.Rat).Mul(v.y, d).Num()
	g := new(big.Int).GCD(nil, nil, new(big.Int).Abs(x), new(big.Int).Abs(y))
	return sp(int(new(big.Int).Quo(x, g).Int64()), int(new(big.Int).Quo(y, g).Int64()))
}

// slowTowards reports whether a stack falls, and towards a spot.
func slowTowards(l []api.Prop, weight, to api.Spot) bool {
	return len(l) > 0 && !slowStands(l, weight) && dot(slowWay(places(l), weight).shortest(), way(weight, to)) > 0
}

// slowAfter does deeds as far as they can be done, and reports whether all are, and whether the stack stands after each but the last one.
func slowAfter(l []api.Prop, weight api.Spot, deeds []int) (left []int, done, stood bool) {
	there := map[int]bool{}
	for i := range l {
		there[i] = true
	}
	done, stood = true, true
	for n, d := range deeds {
		if there[d/2] != (d%2 == 0) {
			return nil, false, false
		}
		there[d/2] = d%2 == 1
		left = nil
		var props []api.Prop
		for i, p := range l {
			if there[i] {
				left, props = append(left, i), append(props, p)
			}
		}
		if n < len(deeds)-1 && !slowStands(props, weight) {
			stood = false
		}
	}
	return left, done, stood
}

// slowIn reports whether a spot is in a zone, as the chapter words it.
func slowIn(z api.Zone, s api.Spot) bool {
	n := func(x int) *big.Int { return big.NewInt(int64(x)) }
	times := func(l ...*big.Int) *big.Int {
		product := n(1)
		for _, x := range l {
			product.Mul(product, x)
		}
		return product
	}
	v, p := way(z.Foot, z.To), way(z.Foot, s)
	along, across := n(dot(v, p)), n(v.X*p.Y-v.Y*p.X)
	return along.Sign() >= 0 && times(along, along).Cmp(times(n(z.Reach), n(z.Reach), n(dot(v, v)))) <= 0 &&
		times(n(1000), across.Abs(across)).Cmp(times(n(z.Wide), along)) <= 0
}

func slowHit(z api.Zone, things []api.Spot) []int {
	var hit []int
	for i, s := range things {
		if slowIn(z, s) {
			hit = append(hit, i)
		}
	}
	return hit
}

// want checks a result and its error; behind an error the result is its zero value.
func want[T comparable](t *testing.T, what string, got T, e api.Errno, want T, wantE api.Errno) {
	t.Helper()
	if got != want || e != wantE {
		t.Errorf("%s = %v, error %d, want %v, error %d", what, got, e, want, wantE)
	}
}

func wantList[T comparable](t *testing.T, what string, got []T, e api.Errno, want []T, wantE api.Errno) {
	t.Helper()
	if !slices.Equal(got, want) || e != wantE {
		t.Errorf("%s = %v, error %d, want %v, error %d", what, got, e, want, wantE)
	}
}

// The calls below are those whose errors a test does not expect.

func mustHull(t *testing.T, l []api.Prop) []api.Spot {
	t.Helper()
	corners, e := fell.Hull(l)
	if e != api.OK {
		t.Fatalf("Hull(%v): error %d", l, e)
	}
	return corners
}

func mustStand(t *testing.T, l []api.Prop, weight api.Spot) bool {
	t.Helper()
	stands, e := fell.Stands(l, weight)
	if e != api.OK {
		t.Fatalf("Stands(%v, %v): error %d", l, weight, e)
	}
	return stands
}

func mustIn(t *testing.T, z api.Zone, s api.Spot) bool {
	t.Helper()
	in, e := fell.In(z, s)
	if e != api.OK {
		t.Fatalf("In(%v, %v): error %d", z, s, e)
	}
	return in
}
