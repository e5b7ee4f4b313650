package rope_test

import (
	"math"
	"math/big"
	"math/rand/v2"
	"slices"
	"testing"

	"steeplejack/api"
	"steeplejack/rope"
)

func tackle(parts, keep int) api.Tackle { return api.Tackle{Parts: parts, Keep: keep} }

// loads makes loads of pairs: a place and a weight.
func loads(n ...int) []api.Load {
	var l []api.Load
	for p := range slices.Chunk(n, 2) {
		l = append(l, api.Load{At: p[0], Weight: p[1]})
	}
	return l
}

// uses makes uses of pairs: a day and a load.
func uses(n ...int) []api.Use {
	var u []api.Use
	for p := range slices.Chunk(n, 2) {
		u = append(u, api.Use{Day: p[0], Load: p[1]})
	}
	return u
}

// example is a rope that takes a thousandth a day, and may be used down to its half.
func example() api.Rope { return api.Rope{Strength: 10_000, Daily: 1, Least: 500} }

// exampleUses take 10, 5, 20 and 1 thousandths of the example.
func exampleUses() []api.Use { return uses(0, 1000, 10, 500, 10, 2000, 30, 1) }

// sameLoads makes n loads that are the same, sameUses n uses.
func sameLoads(n, at, weight int) []api.Load {
	return slices.Repeat([]api.Load{{At: at, Weight: weight}}, n)
}

func sameUses(n, day, load int) []api.Use {
	return slices.Repeat([]api.Use{{Day: day, Load: load}}, n)
}

func rat(n, d int) api.Ratio { return api.Ratio{N: n, D: d} }

// wild is numbers at which reckoning without care goes wrong.
var wild = []int{math.MinInt, math.MinInt + 1, -1, 0, 1, 2, 100, 100_001, 1_000_001, math.MaxInt - 1, math.MaxInt}

// notLoads is numbers that are no loads, weights, pulls or limits; notDays ones that are no days.
var (
	notLoads = []int{math.MinInt, -1, 1_000_001, math.MaxInt}
	notDays  = []int{math.MinInt, -1, 100_001, math.MaxInt}
)

// wrongTackles is tackles that are not valid.
func wrongTackles() []api.Tackle {
	return []api.Tackle{{}, tackle(0, 90), tackle(7, 90), tackle(-1, 90), tackle(3, 0), tackle(3, 101), tackle(3, -1), tackle(math.MaxInt, math.MaxInt)}
}

// cradle is a span with loads.
type cradle struct {
	span  int
	loads []api.Load
}

// wrongCradles is cradles that are not valid.
func wrongCradles() []cradle {
	return []cradle{
		{0, nil},
		{-1, nil},
		{100_001, nil},
		{math.MinInt, nil},
		{0, loads(0, 1)},
		{4000, loads(-1, 1)},
		{4000, loads(4001, 1)},
		{4000, loads(0, -1)},
		{4000, loads(0, 1_000_001)},
		{4000, loads(1, 1, 4001, 1)},
		{4000, loads(1, 1, 2, -1)},
		{4000, sameLoads(21, 1, 1)},
	}
}

// wrongRopes is ropes that are not valid.
func wrongRopes() []api.Rope {
	return []api.Rope{
		{},
		{Strength: 0, Daily: 1, Least: 500},
		{Strength: -1, Daily: 1, Least: 500},
		{Strength: 1_000_001, Daily: 1, Least: 500},
		{Strength: 1000, Daily: -1, Least: 500},
		{Strength: 1000, Daily: 1001, Least: 500},
		{Strength: 1000, Daily: 1, Least: 0},
		{Strength: 1000, Daily: 1, Least: -1},
		{Strength: 1000, Daily: 1, Least: 1001},
	}
}

// wrongUses is uses that are not valid.
func wrongUses() [][]api.Use {
	return [][]api.Use{
		uses(-1, 1),
		uses(100_001, 1),
		uses(0, -1),
		uses(0, 1_000_001),
		uses(1, 1, 0, 1),
		uses(5, 1, 5, 1, 4, 1),
		uses(5, 1, 100_001, 1),
		uses(5, 1, 5, -1),
		sameUses(501, 0, 0),
	}
}

// random is the same numbers in each run.
func random() *rand.Rand { return rand.New(rand.NewPCG(7, 8)) }

func randomLoads(r *rand.Rand, span, n, most int) []api.Load {
	l := make([]api.Load, n)
	for i := range l {
		l[i] = api.Load{At: r.IntN(span + 1), Weight: r.IntN(most + 1)}
	}
	return l
}

func randomRope(r *rand.Rand) api.Rope {
	return api.Rope{Strength: 1 + r.IntN([]int{50, 1_000_000}[r.IntN(2)]), Daily: r.IntN(4), Least: 1 + r.IntN(1000)}
}

// randomUses makes n uses, some of them on one day, none with a load above most.
func randomUses(r *rand.Rand, n, most int) []api.Use {
	u := make([]api.Use, n)
	day := 0
	for i := range u {
		day += r.IntN(4)
		u[i] = api.Use{Day: day, Load: r.IntN(most + 1)}
	}
	return u
}

func frac(n, d int) *big.Rat { return big.NewRat(int64(n), int64(d)) }

// slowGain is what a tackle lifts by one newton, as the chapter words it.
func slowGain(t api.Tackle) *big.Rat {
	sum, tension := new(big.Rat), frac(1, 1)
	for range t.Parts {
		sum.Add(sum, tension)
		tension = new(big.Rat).Mul(tension, frac(t.Keep, 100))
	}
	return sum
}

// slowLifts reports whether a tackle lifts a load by a pull.
func slowLifts(t api.Tackle, pull, load int) bool {
	lifted := slowGain(t)
	return lifted.Mul(lifted, frac(pull, 1)).Cmp(frac(load, 1)) >= 0
}

// slowShares is what the two ropes of a cradle bear.
func slowShares(span int, l []api.Load) (first, second *big.Rat) {
	first, second = new(big.Rat), new(big.Rat)
	for _, x := range l {
		first.Add(first, frac(x.Weight*(span-x.At), span))
		second.Add(second, frac(x.Weight, 1))
	}
	return first, second.Sub(second, first)
}

// slowBears reports whether neither rope bears more than a limit.
func slowBears(span int, l []api.Load, limit int) bool {
	first, second := slowShares(span, l)
	return first.Cmp(frac(limit, 1)) <= 0 && second.Cmp(frac(limit, 1)) <= 0
}

// slowDifference is by how much the two shares differ.
func slowDifference(span int, l []api.Load) *big.Rat {
	first, second := slowShares(span, l)
	first.Sub(first, second)
	return first.Abs(first)
}

// manAt is loads with one more.
func manAt(l []api.Load, at, weight int) []api.Load {
	return slices.Concat(l, loads(at, weight))
}

// slowLeft is what is left of a rope on a day, as the chapter words it.
func slowLeft(r api.Rope, u []api.Use, day int) int {
	lost := r.Daily * day
	for _, x := range u {
		if x.Day <= day {
			lost += x.Load * 100 / r.Strength
			if x.Load*100%r.Strength > 0 {
				lost++
			}
		}
	}
	return max(0, 1000-lost)
}

// slowMay reports whether a rope may bear a load on a day.
func slowMay(r api.Rope, u []api.Use, day, load int) bool {
	left := slowLeft(r, u, day)
	most := frac(r.Strength*left, 1000)
	most.Quo(most, frac(5, 1))
	return left >= r.Least && frac(load, 1).Cmp(most) <= 0
}

// isRatio reports whether a fraction is in lowest terms and is r.
func isRatio(got api.Ratio, r *big.Rat) bool {
	return r.Num().IsInt64() && r.Denom().IsInt64() && got == api.Ratio{N: int(r.Num().Int64()), D: int(r.Denom().Int64())}
}

// wantNumber checks a number and its error; behind an error the number is 0.
func wantNumber(t *testing.T, what string, got int, e api.Errno, want int, wantE api.Errno) {
	t.Helper()
	if got != want || e != wantE {
		t.Errorf("%s = %d, error %d, want %d, error %d", what, got, e, want, wantE)
	}
}

func wantRatio(t *testing.T, what string, got api.Ratio, e api.Errno, want api.Ratio, wantE api.Errno) {
	t.Helper()
	if got != want || e != wantE {
		t.Errorf("%s = %v, error %d, want %v, error %d", what, got, e, want, wantE)
	}
}

func wantPair(t *testing.T, what string, a, b int, e api.Errno, wantA, wantB int, wantE api.Errno) {
	t.Helper()
	if a != wantA || b != wantB || e != wantE {
		t.Errorf("%s = %d, %d, error %d, want %d, %d, error %d", what, a, b, e, wantA, wantB, wantE)
	}
}

func mustLeft(t *testing.T, r api.Rope, u []api.Use, day int) int {
	t.Helper()
	n, e := rope.Left(r, u, day)
	if e != api.OK {
		t.Fatalf("Left(%v, %v, %d): error %d", r, u, day, e)
	}
	return n
}

func mustMay(t *testing.T, r api.Rope, u []api.Use, day, load int) bool {
	t.Helper()
	ok, e := rope.May(r, u, day, load)
	if e != api.OK {
		t.Fatalf("May(%v, %v, %d, %d): error %d", r, u, day, load, e)
	}
	return ok
}
