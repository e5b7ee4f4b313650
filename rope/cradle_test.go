package rope_test

import (
	"slices"
	"testing"

	"steeplejack/api"
	"steeplejack/rope"
)

// 4.2: ValidLoads.
func TestValidLoads(t *testing.T) {
	for _, c := range []cradle{
		{1, nil},
		{100_000, []api.Load{}},
		{4000, loads(1000, 800)},
		{1, loads(0, 0, 1, 1_000_000)},
		{100_000, loads(100_000, 1, 0, 1, 50, 1)},
		{4000, sameLoads(20, 4000, 1_000_000)},
	} {
		if !rope.ValidLoads(c.span, c.loads) {
			t.Errorf("%v is not valid", c)
		}
	}
	for _, c := range wrongCradles() {
		if rope.ValidLoads(c.span, c.loads) {
			t.Errorf("%v is valid", c)
		}
	}
}

// 4.2: Shares and Middle.
func TestShares(t *testing.T) {
	for _, c := range []struct {
		name          string
		span          int
		l             []api.Load
		first, second api.Ratio
		middle        api.Ratio
		e             api.Errno // of Middle
	}{
		{"the example", 4000, loads(1000, 800), rat(600, 1), rat(200, 1), rat(1000, 1), api.OK},
		{"no loads", 4000, nil, rat(0, 1), rat(0, 1), api.Ratio{}, api.ErrNone},
		{"weights of 0", 4000, loads(1000, 0, 4000, 0), rat(0, 1), rat(0, 1), api.Ratio{}, api.ErrNone},
		{"at the first rope", 4000, loads(0, 800), rat(800, 1), rat(0, 1), rat(0, 1), api.OK},
		{"at the second rope", 4000, loads(4000, 800), rat(0, 1), rat(800, 1), rat(4000, 1), api.OK},
		{"at both", 4000, loads(4000, 100, 0, 300), rat(300, 1), rat(100, 1), rat(1000, 1), api.OK},
		{"thirds", 3, loads(1, 1), rat(2, 3), rat(1, 3), rat(1, 1), api.OK},
		{"the middle between two places", 10, loads(3, 1, 4, 1), rat(13, 10), rat(7, 10), rat(7, 2), api.OK},
		{"two at a place", 10, loads(5, 1, 5, 2), rat(3, 2), rat(3, 2), rat(5, 1), api.OK},
		{"a weight of 0 beside one", 10, loads(9, 0, 2, 5), rat(4, 1), rat(1, 1), rat(2, 1), api.OK},
		{"the greatest numbers", 100_000, sameLoads(20, 99_999, 1_000_000), rat(200, 1), rat(19_999_800, 1), rat(99_999, 1), api.OK},
		{"the least span", 1, loads(0, 1_000_000, 1, 999_999), rat(1_000_000, 1), rat(999_999, 1), rat(999_999, 1_999_999), api.OK},
	} {
		first, second, e := rope.Shares(c.span, c.l)
		wantRatio(t, c.name+": first", first, e, c.first, api.OK)
		wantRatio(t, c.name+": second", second, e, c.second, api.OK)
		middle, e := rope.Middle(c.span, c.l)
		wantRatio(t, c.name+": Middle", middle, e, c.middle, c.e)
	}
}

// 4.2: Walk.
func TestWalk(t *testing.T) {
	l := loads(1000, 800) // 600 and 200
	for _, c := range []struct {
		name          string
		span          int
		l             []api.Load
		weight, limit int
		lo, hi        int
		e             api.Errno
	}{
		{"everywhere", 4000, l, 800, 1400, 0, 4000, api.OK},
		{"one newton less", 4000, l, 800, 1399, 5, 4000, api.OK},
		{"held by the second rope too", 4000, l, 800, 900, 2500, 3500, api.OK},
		{"just one place", 4000, l, 800, 800, 3000, 3000, api.OK},
		{"no place", 4000, l, 800, 799, 0, 0, api.ErrNone},
		{"without loads", 4000, nil, 800, 800, 0, 4000, api.OK},
		{"without loads, less", 4000, nil, 800, 600, 1000, 3000, api.OK},
		{"without loads, just the middle", 4000, nil, 800, 400, 2000, 2000, api.OK},
		{"no whole place", 3, nil, 2, 1, 0, 0, api.ErrNone},
		{"rounded to whole places", 10, nil, 3, 2, 4, 6, api.OK},
		{"the second rope alone holds", 10, loads(10, 100), 50, 100, 0, 0, api.OK},
		{"the first rope alone holds", 10, loads(0, 100), 50, 100, 10, 10, api.OK},
		{"the first rope bears too much already", 10, loads(0, 100), 50, 99, 0, 0, api.ErrNone},
		{"the second rope bears too much already", 10, loads(10, 100), 50, 99, 0, 0, api.ErrNone},
		{"no weight", 4000, l, 0, 600, 0, 4000, api.OK},
		{"no weight, too much already", 4000, l, 0, 599, 0, 0, api.ErrNone},
		{"no weight, too much for the second rope", 4000, loads(3000, 800), 0, 599, 0, 0, api.ErrNone},
		{"no weight, no loads, no limit", 4000, nil, 0, 0, 0, 4000, api.OK},
		{"no limit", 4000, nil, 1, 0, 0, 0, api.ErrNone},
		{"the greatest numbers", 100_000, nil, 1_000_000, 1_000_000, 0, 100_000, api.OK},
		{"the greatest numbers, less", 100_000, nil, 1_000_000, 999_999, 1, 99_999, api.OK},
		{"twenty loads and a man", 100_000, sameLoads(20, 50_000, 50_000), 1_000_000, 1_000_000, 50_000, 50_000, api.OK},
	} {
		lo, hi, e := rope.Walk(c.span, c.l, c.weight, c.limit)
		wantPair(t, c.name+": Walk", lo, hi, e, c.lo, c.hi, c.e)
	}
	for _, n := range notLoads {
		lo, hi, e := rope.Walk(4000, l, n, 1000)
		wantPair(t, "Walk of no weight", lo, hi, e, 0, 0, api.ErrRange)
		lo, hi, e = rope.Walk(4000, l, 800, n)
		wantPair(t, "Walk to no limit", lo, hi, e, 0, 0, api.ErrRange)
	}
}

// 4.2: Level.
func TestLevel(t *testing.T) {
	for _, c := range []struct {
		name         string
		span         int
		l            []api.Load
		weight, want int
		e            api.Errno
	}{
		{"beside the example", 4000, loads(1000, 800), 800, 3000, api.OK},
		{"beside nothing", 4000, nil, 1, 2000, api.OK},
		{"between two places, the least", 3, nil, 5, 1, api.OK},
		{"on one millimetre", 1, nil, 5, 0, api.OK},
		{"on one millimetre, a load at the first rope", 1, loads(0, 1), 5, 1, api.OK},
		{"on one millimetre, a load at the second rope", 1, loads(1, 1), 5, 0, api.OK},
		{"too light at the second rope", 4000, loads(0, 800), 100, 4000, api.OK},
		{"too light at the first rope", 4000, loads(4000, 800), 100, 0, api.OK},
		{"just heavy enough", 4000, loads(0, 800), 800, 4000, api.OK},
		{"nearest below", 10, loads(1, 1), 3, 6, api.OK},
		{"nearest above", 10, loads(0, 1), 3, 7, api.OK},
		{"the greatest numbers", 100_000, sameLoads(20, 100_000, 1_000_000), 1_000_000, 0, api.OK},
		{"the least man beside the greatest loads", 100_000, sameLoads(20, 0, 1_000_000), 1, 100_000, api.OK},
		{"a weight of 0", 4000, nil, 0, 0, api.ErrRange},
	} {
		got, e := rope.Level(c.span, c.l, c.weight)
		wantNumber(t, c.name+": Level", got, e, c.want, c.e)
	}
	for _, n := range notLoads {
		got, e := rope.Level(4000, nil, n)
		wantNumber(t, "Level of no weight", got, e, 0, api.ErrRange)
	}
}

// 4.2: cradles that are not valid; they come before all other errors.
func TestWrongCradles(t *testing.T) {
	for _, c := range wrongCradles() {
		first, second, e := rope.Shares(c.span, c.loads)
		wantRatio(t, "Shares", first, e, api.Ratio{}, api.ErrInvalid)
		wantRatio(t, "Shares", second, e, api.Ratio{}, api.ErrInvalid)
		middle, e := rope.Middle(c.span, c.loads)
		wantRatio(t, "Middle", middle, e, api.Ratio{}, api.ErrInvalid)
		for _, n := range append(notLoads, 0, 100) {
			lo, hi, e := rope.Walk(c.span, c.loads, n, 100)
			wantPair(t, "Walk", lo, hi, e, 0, 0, api.ErrInvalid)
			lo, hi, e = rope.Walk(c.span, c.loads, 100, n)
			wantPair(t, "Walk", lo, hi, e, 0, 0, api.ErrInvalid)
			at, e := rope.Level(c.span, c.loads, n)
			wantNumber(t, "Level", at, e, 0, api.ErrInvalid)
		}
	}
}

// P4.3 and 4.2: shares and middles of random cradles, against exact fractions.
func TestSharesAgainstFractions(t *testing.T) {
	r := random()
	for range 2000 {
		span := 1 + r.IntN([]int{10, 100_000}[r.IntN(2)])
		l := randomLoads(r, span, r.IntN(21), []int{5, 1_000_000}[r.IntN(2)])
		first, second, e := rope.Shares(span, l)
		wantFirst, wantSecond := slowShares(span, l)
		if e != api.OK || !isRatio(first, wantFirst) || !isRatio(second, wantSecond) {
			t.Fatalf("Shares(%d, %v) = %v, %v, error %d", span, l, first, second, e)
		}
		weight := 0
		for _, x := range l {
			weight += x.Weight
		}
		sum := frac(first.N, first.D)
		if sum.Add(sum, frac(second.N, second.D)).Cmp(frac(weight, 1)) != 0 {
			t.Fatalf("Shares(%d, %v) = %v, %v: not all the weights", span, l, first, second)
		}
		middle, e := rope.Middle(span, l)
		if weight == 0 {
			wantRatio(t, "Middle", middle, e, api.Ratio{}, api.ErrNone)
			continue
		}
		if e != api.OK || !sameShares(span, weight, middle, second) {
			t.Fatalf("Middle(%d, %v) = %v, error %d", span, l, middle, e)
		}
	}
}

// sameShares reports whether a place in lowest terms is that at which a weight has a second share.
func sameShares(span, weight int, at, second api.Ratio) bool {
	want := frac(second.N, second.D)
	want.Mul(want, frac(span, weight))
	return isRatio(at, want)
}

// P4.3: a load that is moved towards the second rope makes its share no less.
func TestMovedLoad(t *testing.T) {
	r := random()
	for range 500 {
		span := 1 + r.IntN(1000)
		l := randomLoads(r, span, 1+r.IntN(20), 1000)
		moved := slices.Clone(l)
		x := &moved[r.IntN(len(moved))]
		x.At += r.IntN(span - x.At + 1)
		_, before, _ := rope.Shares(span, l)
		_, after, e := rope.Shares(span, moved)
		if e != api.OK || frac(after.N, after.D).Cmp(frac(before.N, before.D)) < 0 {
			t.Fatalf("%d: the second share of %v is %v, that of %v is %v", span, l, before, moved, after)
		}
	}
}

// P4.3 and 4.2: Walk and Level, against all places.
func TestPlaces(t *testing.T) {
	r := random()
	none, bounded := 0, 0
	for range 1500 {
		span := 1 + r.IntN(30)
		l := randomLoads(r, span, r.IntN(5), 20)
		weight, limit := r.IntN(40), r.IntN(60)
		lo, hi, e := rope.Walk(span, l, weight, limit)
		if e == api.ErrNone {
			none++
			wantPair(t, "Walk", lo, hi, e, 0, 0, api.ErrNone)
			lo, hi = 1, 0
		} else if e != api.OK || lo > hi || lo < 0 || hi > span {
			t.Fatalf("Walk(%d, %v, %d, %d) = %d, %d, error %d", span, l, weight, limit, lo, hi, e)
		} else if hi-lo < span {
			bounded++
		}
		for at := range span + 1 {
			if slowBears(span, manAt(l, at, weight), limit) != (lo <= at && at <= hi) {
				t.Fatalf("Walk(%d, %v, %d, %d) = %d, %d, error %d: %d", span, l, weight, limit, lo, hi, e, at)
			}
		}
		checkLevel(t, span, l, weight+1)
	}
	if none < 200 || bounded < 200 {
		t.Errorf("no place in %d cradles, and not all in %d", none, bounded)
	}
}

// checkLevel checks that Level's place is the first of the best ones.
func checkLevel(t *testing.T, span int, l []api.Load, weight int) {
	t.Helper()
	best := 0
	for at := range span + 1 {
		if slowDifference(span, manAt(l, at, weight)).Cmp(slowDifference(span, manAt(l, best, weight))) < 0 {
			best = at
		}
	}
	got, e := rope.Level(span, l, weight)
	if e != api.OK || got != best {
		t.Fatalf("Level(%d, %v, %d) = %d, error %d, want %d", span, l, weight, got, e, best)
	}
}
