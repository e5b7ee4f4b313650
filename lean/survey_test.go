package lean_test

import (
	"math"
	"math/big"
	"slices"
	"testing"

	"steeplejack/api"
	"steeplejack/lean"
)

// 1.3
func TestMoved(t *testing.T) {
	a := mks(0, 1, 2, 10, 3, -4, 20, -10000, 0, 30, 0, 10000)
	b := mks(0, 1, 4, 10, 4, -4, 20, 10000, 0, 30, 1, 10000)
	for _, c := range []struct {
		by   int
		want []int
	}{{0, []int{0, 1, 2, 3}}, {1, []int{0, 2}}, {2, []int{2}}, {10000, []int{2}}} {
		if i, e := lean.Moved(a, b, c.by); e != api.OK || !slices.Equal(i, c.want) {
			t.Errorf("Moved by %d = %v, error %d", c.by, i, e)
		}
		if i, e := lean.Moved(b, a, c.by); e != api.OK || !slices.Equal(i, c.want) {
			t.Errorf("Moved back by %d = %v, error %d", c.by, i, e)
		}
	}
	if i, e := lean.Moved(a, a, 0); e != api.OK || len(i) != 0 {
		t.Errorf("Moved = %v, error %d", i, e)
	}
	north := mks(0, 0, 5)
	if i, e := lean.Moved(mks(0, 0, 0), north, 4); e != api.OK || !slices.Equal(i, []int{0}) {
		t.Errorf("Moved to the north = %v, error %d", i, e)
	}
}

func TestMovedErrors(t *testing.T) {
	a, other, wrong := mks(0, 0, 0, 10, 0, 0), mks(0, 0, 0, 11, 0, 0), mks(0, 0, 10001)
	for _, c := range []struct {
		name string
		a, b []api.Mark
		by   int
		want api.Errno
	}{
		{"first not valid", wrong, a, -1, api.ErrInvalid},
		{"second not valid", a, wrong, -1, api.ErrInvalid},
		{"empty", nil, nil, 0, api.ErrInvalid},
		{"by below 0", a, a[:1], -1, api.ErrRange},
		{"by too great", a, other, 10001, api.ErrRange},
		{"sizes", a, a[:1], 0, api.ErrSize},
		{"sizes before heights", a, mks(1, 0, 0), 0, api.ErrSize},
		{"heights", a, other, 0, api.ErrState},
		{"first heights", mks(1, 0, 0), mks(2, 0, 0), 10000, api.ErrState},
	} {
		i, e := lean.Moved(c.a, c.b, c.by)
		wantErrno(t, c.name, e, c.want)
		if len(i) != 0 {
			t.Errorf("%s: %v", c.name, i)
		}
	}
}

// 1.3 and its Details.
func TestReaches(t *testing.T) {
	for _, c := range []struct {
		name            string
		a, b            api.Mark
		from, to, limit int
		want            int
	}{
		{"the example", api.Mark{}, api.Mark{East: 10}, 0, 100, 25, 250},
		{"3 and 4 are 5, an exact day", api.Mark{}, api.Mark{East: 3, North: -4}, 10, 20, 15, 40},
		{"rounded up to a day", api.Mark{}, api.Mark{East: 3, North: -4}, 10, 20, 12, 34},
		{"far enough on the day to", api.Mark{}, api.Mark{East: 10}, 0, 100, 10, 100},
		{"more than far enough", api.Mark{}, api.Mark{North: 10}, 0, 100, 7, 100},
		{"far enough, though it comes nearer", api.Mark{East: -30}, api.Mark{East: -20}, 0, 10, 20, 10},
		{"one day short", api.Mark{}, api.Mark{East: 10}, 0, 100, 11, 110},
		{"through the middle to the other side", api.Mark{East: -30}, api.Mark{East: -20}, 0, 10, 21, 51},
		{"standing still, far enough", api.Mark{East: 5}, api.Mark{East: 5}, 0, 1, 5, 1},
		{"other heights", api.Mark{Height: 7}, api.Mark{Height: 3, East: -1}, 0, 1, 9, 9},
		{"the last day", api.Mark{}, api.Mark{East: 1}, 99999, 100000, 20000, 119999},
		{"the last of 40,000 days", api.Mark{}, api.Mark{North: 1000}, 0, 40000, 2000, 80000},
		{"great numbers", api.Mark{East: 10000, North: 10000}, api.Mark{East: -10000, North: -10000}, 0, 100000, 20000, 120711},
	} {
		if d, e := lean.Reaches(c.a, c.b, c.from, c.to, c.limit); e != api.OK || d != c.want {
			t.Errorf("%s: Reaches = %d, error %d", c.name, d, e)
		}
	}
}

func TestReachesErrors(t *testing.T) {
	var m api.Mark
	for _, c := range []struct {
		name            string
		a, b            api.Mark
		from, to, limit int
		want            api.Errno
	}{
		{"a east", api.Mark{East: 10001}, m, -1, 100, 6, api.ErrInvalid},
		{"a north", api.Mark{North: -10001}, m, 0, 100, 6, api.ErrInvalid},
		{"b height", m, api.Mark{Height: 200001}, 5, 5, 0, api.ErrInvalid},
		{"b height -1", m, api.Mark{Height: -1}, 0, 100, 6, api.ErrInvalid},
		{"from -1", m, m, -1, 100, 6, api.ErrRange},
		{"from too great", m, m, 100001, 100002, 6, api.ErrRange},
		{"from the greatest", m, m, math.MaxInt, math.MinInt, 6, api.ErrRange},
		{"to too great", m, m, 0, 100001, 6, api.ErrRange},
		{"from is to", m, m, 100, 100, 6, api.ErrRange},
		{"from is above to", m, m, 101, 100, 6, api.ErrRange},
		{"limit 0", api.Mark{East: 1}, api.Mark{East: 2}, 0, 1, 0, api.ErrRange},
		{"limit too great", m, m, 0, 100, 20001, api.ErrRange},
		{"standing still", api.Mark{East: 5}, api.Mark{East: 5}, 0, 100, 6, api.ErrNone},
		{"a day too late", m, api.Mark{North: 10000}, 0, 40001, 20000, api.ErrNone},
		{"much too late", m, api.Mark{North: 1000}, 0, 40000, 2001, api.ErrNone},
		{"far enough before to only", api.Mark{East: 30}, api.Mark{East: 20}, 0, 100000, 21, api.ErrNone},
	} {
		d, e := lean.Reaches(c.a, c.b, c.from, c.to, c.limit)
		wantErrno(t, c.name, e, c.want)
		if d != 0 {
			t.Errorf("%s: day %d", c.name, d)
		}
	}
}

// isFar reports whether a mark is at least limit from the plumb line on a day.
func isFar(a, b api.Mark, from, to, limit, day int) bool {
	place := func(a, b int) *big.Rat {
		v := big.NewRat(int64(day-from), int64(to-from))
		v.Mul(v, big.NewRat(int64(b-a), 1))
		v.Add(v, big.NewRat(int64(a), 1))
		return v.Mul(v, v)
	}
	sum := place(a.East, b.East)
	sum.Add(sum, place(a.North, b.North))
	return sum.Cmp(big.NewRat(int64(limit)*int64(limit), 1)) >= 0
}

// P1.5: far enough on the day, and on no day from to on before it.
func TestReachesFirst(t *testing.T) {
	r := random()
	for range 60 {
		most := []int{20, 10000}[r.IntN(2)]
		offset := func() int { return r.IntN(2*most+1) - most }
		a, b := api.Mark{East: offset(), North: offset()}, api.Mark{East: offset(), North: offset()}
		from := r.IntN(1000)
		to := from + 1 + r.IntN([]int{10, 99000}[r.IntN(2)])
		limit := 1 + r.IntN(2*most)
		day, e := lean.Reaches(a, b, from, to, limit)
		if e == api.ErrNone {
			day = to + 40001
		} else if e != api.OK || day < to || day > to+40000 || !isFar(a, b, from, to, limit, day) {
			t.Fatalf("Reaches(%v, %v, %d, %d, %d) = %d, error %d", a, b, from, to, limit, day, e)
		}
		for d := to; d < day; d++ {
			if (d < to+50 || d > day-50 || d%97 == 0) && isFar(a, b, from, to, limit, d) {
				t.Fatalf("Reaches(%v, %v, %d, %d, %d) = %d, but %d is far enough", a, b, from, to, limit, day, d)
			}
		}
	}
}

// 1.4
func TestTurned(t *testing.T) {
	l := mks(0, 1, 2, 10, 3, -4, 20, 0, 10000)
	turns := [][]api.Mark{
		l,
		mks(0, -2, 1, 10, 4, 3, 20, -10000, 0),
		mks(0, -1, -2, 10, -3, 4, 20, 0, -10000),
		mks(0, 2, -1, 10, -4, -3, 20, 10000, 0),
	}
	for _, c := range []struct{ quarters, want int }{{0, 0}, {1, 1}, {2, 2}, {3, 3}, {4, 0}, {7, 3}, {-1, 3}, {-2, 2}, {-3, 1}, {-4, 0}, {-5, 3}, {math.MaxInt, 3}, {math.MinInt, 0}, {math.MinInt + 1, 1}} {
		if m, e := lean.Turned(l, c.quarters); e != api.OK || !slices.Equal(m, turns[c.want]) {
			t.Errorf("Turned by %d = %v, error %d", c.quarters, m, e)
		}
	}
	if m, e := lean.Turned(mks(0, 0, 10001), 1); e != api.ErrInvalid || len(m) != 0 {
		t.Errorf("Turned = %v, error %d", m, e)
	}
	if m, e := lean.Turned(nil, 4); e != api.ErrInvalid || len(m) != 0 {
		t.Errorf("Turned = %v, error %d", m, e)
	}
}

// P1.4: four quarters, one after the other, are nothing.
func TestFourQuarters(t *testing.T) {
	l := marks(40)
	m := l
	for i := range 4 {
		var e api.Errno
		m, e = lean.Turned(m, 1)
		if e != api.OK || slices.Equal(m, l) != (i == 3) {
			t.Fatalf("after %d quarters: %v, error %d", i+1, m, e)
		}
	}
}
