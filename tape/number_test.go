package tape_test

import (
	"math"
	"math/big"
	"testing"

	"steeplejack/api"
	"steeplejack/tape"
)

// 5.5: Compare.
func TestCompare(t *testing.T) {
	for _, c := range []struct {
		a, b api.Ratio
		want int
	}{
		{rat(1, 2), rat(2, 3), -1},
		{rat(2, 3), rat(1, 2), 1},
		{rat(1, 2), rat(2, 4), 0},
		{rat(0, 1), rat(0, 9), 0},
		{rat(-1, 2), rat(0, 1), -1},
		{rat(-1, 2), rat(-1, 3), -1},
		{rat(-1, 2), rat(1, 2), -1},
		{rat(1, 2), rat(-1, 2), 1},
		{rat(3, 0), rat(3, 1), 0},
		{rat(3, -5), rat(3, 1), 0},
		{rat(3, 1), rat(3, math.MinInt), 0},
		{rat(3, -5), rat(5, 2), 1},
		{rat(-3, -5), rat(-2, 1), -1},
		{api.Ratio{}, rat(0, 1), 0},
		{rat(math.MaxInt, 1), rat(math.MinInt, 1), 1},
		{rat(math.MinInt, 1), rat(math.MinInt, 2), -1},
		{rat(math.MinInt, math.MaxInt), rat(-1, 1), -1},
		{rat(-math.MaxInt, math.MaxInt), rat(-1, 1), 0},
		{rat(math.MaxInt, math.MaxInt-1), rat(math.MaxInt-1, math.MaxInt-2), -1},
		{rat(math.MaxInt-1, math.MaxInt), rat(math.MaxInt-2, math.MaxInt-1), 1},
		{rat(1<<32, 1), rat(1, 1<<32), 1},
		{rat(math.MinInt, 1<<62), rat(-2, 1), 0},
		{rat(1, math.MaxInt), rat(0, 1), 1},
		{rat(-1, math.MaxInt), rat(0, 1), -1},
	} {
		if got := tape.Compare(c.a, c.b); got != c.want {
			t.Errorf("Compare(%v, %v) = %d", c.a, c.b, got)
		}
		if got := tape.Compare(c.b, c.a); got != -c.want {
			t.Errorf("Compare(%v, %v) = %d", c.b, c.a, got)
		}
	}
}

// 5.5: Compare is exact for any numbers.
func TestCompareWild(t *testing.T) {
	var all []api.Ratio
	for _, n := range wild {
		for _, d := range wild {
			all = append(all, rat(n, d))
		}
	}
	r := random()
	for range 100 {
		all = append(all, rat(int(r.Uint64()), int(r.Uint64())), rat(int(r.Uint64()), int(r.Uint64()>>r.IntN(64))))
	}
	for _, a := range all {
		for _, b := range all {
			x, y := big.NewRat(int64(a.N), int64(max(a.D, 1))), big.NewRat(int64(b.N), int64(max(b.D, 1)))
			if got := tape.Compare(a, b); got != x.Cmp(y) {
				t.Fatalf("Compare(%v, %v) = %d", a, b, got)
			}
		}
	}
}
