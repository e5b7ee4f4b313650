package fell_test

import (
	"slices"
	"testing"

	"steeplejack/api"
	"steeplejack/fell"
)

// 6.1: Valid.
func TestValid(t *testing.T) {
	for _, l := range [][]api.Prop{
		nil, {}, example(), square(), row(24), wooden(1, 2, 2, 1), props(0, 0, 0, 1), props(0, 0, 1, 0),
		props(10_000, 10_000, 10_000, -10_000, -10_000, 10_000, -10_000, -10_000), append(props(1, 2), wooden(2, 1)...),
	} {
		if !fell.Valid(l) {
			t.Errorf("%v is not valid", l)
		}
	}
	for _, l := range wrongProps() {
		if fell.Valid(l) {
			t.Errorf("%v is valid", l)
		}
	}
}

// 6.1: Hull.
func TestHull(t *testing.T) {
	for _, c := range []struct {
		name string
		l    []api.Prop
		want []api.Spot
	}{
		{"no props", nil, nil},
		{"one", props(3, -4), sps(3, -4)},
		{"two", props(0, 0, 5, 5), sps(0, 0, 5, 5)},
		{"two, the upper one first", props(5, 5, 0, 0), sps(0, 0, 5, 5)},
		{"two beside each other", props(5, 1, 0, 1), sps(0, 1, 5, 1)},
		{"two of which the lower is to the right", props(0, 5, 5, 0), sps(5, 0, 0, 5)},
		{"three on a line", props(2, 2, 0, 0, 5, 5), sps(0, 0, 5, 5)},
		{"four on a level line", props(2, 7, 9, 7, -1, 7, 5, 7), sps(-1, 7, 9, 7)},
		{"four on an upright line", props(7, 2, 7, 9, 7, -1, 7, 5), sps(7, -1, 7, 9)},
		{"four on a line that leans to the left", props(-2, 2, 0, 0, -5, 5, -3, 3), sps(0, 0, -5, 5)},
		{"the example", example(), sps(0, 0, 10, 0, 0, 10)},
		{"clockwise", props(0, 0, 0, 10, 10, 0), sps(0, 0, 10, 0, 0, 10)},
		{"a spot in the middle", square(), sps(0, 0, 10, 0, 10, 10, 0, 10)},
		{"spots on the sides", props(10, 10, 5, 10, 0, 10, 0, 5, 0, 0, 5, 0, 10, 0, 10, 5), sps(0, 0, 10, 0, 10, 10, 0, 10)},
		{"a lowest one in the middle", props(-5, 0, 5, 0, 0, -5, 0, 5), sps(0, -5, 5, 0, 0, 5, -5, 0)},
		{"the greatest", props(10_000, 10_000, -10_000, 10_000, 10_000, -10_000, -10_000, -10_000, 0, 0), sps(-10_000, -10_000, 10_000, -10_000, 10_000, 10_000, -10_000, 10_000)},
		{"nearly on a line", props(-10_000, -10_000, 0, 1, 10_000, 10_000), sps(-10_000, -10_000, 10_000, 10_000, 0, 1)},
	} {
		got, e := fell.Hull(c.l)
		wantList(t, c.name+": Hull", got, e, c.want, api.OK)
	}
	for _, l := range wrongProps() {
		got, e := fell.Hull(l)
		wantList(t, "Hull", got, e, nil, api.ErrInvalid)
	}
}

// 6.1: a hull has the corners that are not in the hull of the others, and turns left at each, with all spots to its left.
func TestHullCorners(t *testing.T) {
	r := random()
	for range 3000 {
		l := randomProps(r, r.IntN(25), scale(r))
		got, want := mustHull(t, l), slowCorners(places(l))
		if len(got) != len(want) {
			t.Fatalf("Hull(%v) = %v, want the corners %v", l, got, want)
		}
		for i, c := range got {
			if !slices.Contains(want, c) || c.Y < got[0].Y || c.Y == got[0].Y && c.X < got[0].X {
				t.Fatalf("Hull(%v) = %v, want the corners %v", l, got, want)
			}
			for _, p := range l {
				if turn(c, got[(i+1)%len(got)], p.At) < 0 {
					t.Fatalf("Hull(%v) = %v: %v is beyond it", l, got, p)
				}
			}
		}
	}
}

// 6.1: Stands.
func TestStands(t *testing.T) {
	for _, c := range []struct {
		name   string
		l      []api.Prop
		weight api.Spot
		want   bool
	}{
		{"the example", example(), sp(2, 2), true},
		{"the example without its corner", example()[1:], sp(2, 2), false},
		{"on a slanting side", example(), sp(4, 6), true},
		{"just beyond a slanting side", example(), sp(5, 6), false},
		{"on a corner", example(), sp(10, 0), true},
		{"beyond a corner", example(), sp(11, 0), false},
		{"on a level side", example(), sp(7, 0), true},
		{"below it", example(), sp(7, -1), false},
		{"on an upright side", example(), sp(0, 3), true},
		{"beside it", example(), sp(-1, 3), false},
		{"no props", nil, sp(0, 0), false},
		{"one prop", props(3, 4), sp(3, 4), true},
		{"beside one prop", props(3, 4), sp(3, 5), false},
		{"between two", props(0, 0, 6, 3), sp(4, 2), true},
		{"on one of two", props(0, 0, 6, 3), sp(6, 3), true},
		{"beside the line of two", props(0, 0, 6, 3), sp(4, 3), false},
		{"beyond two", props(0, 0, 6, 3), sp(8, 4), false},
		{"before two", props(0, 0, 6, 3), sp(-2, -1), false},
		{"between the outer two of three on a line", props(2, 2, 0, 0, 5, 5), sp(4, 4), true},
		{"beyond three on a line", props(2, 2, 0, 0, 5, 5), sp(6, 6), false},
		{"beside three on a line", props(2, 2, 0, 0, 5, 5), sp(2, 3), false},
		{"nearly on a side", props(-10_000, -10_000, 10_000, 10_000, 10_000, -10_000), sp(9_998, 9_999), false},
		{"nearly beyond it", props(-10_000, -10_000, 10_000, 10_000, 10_000, -10_000), sp(9_999, 9_998), true},
	} {
		got, e := fell.Stands(c.l, c.weight)
		want(t, c.name+": Stands", got, e, c.want, api.OK)
	}
	for _, s := range notSpots() {
		got, e := fell.Stands(square(), s)
		want(t, "Stands", got, e, false, api.ErrRange)
		got, e = fell.Stands(make([]api.Prop, 2), s)
		want(t, "Stands", got, e, false, api.ErrInvalid)
	}
	for _, l := range wrongProps() {
		got, e := fell.Stands(l, sp(0, 0))
		want(t, "Stands", got, e, false, api.ErrInvalid)
	}
}

// P6.2 and P7: a stack stands exactly if its weight is over its props, and if it is over the corners of their hull; a further prop makes none fall.
func TestStandsOnCorners(t *testing.T) {
	r := random()
	standing := 0
	for range 3000 {
		most := scale(r)
		l, weight := randomProps(r, r.IntN(25), most), randomSpot(r, most)
		stands := mustStand(t, l, weight)
		if stands != slowStands(l, weight) {
			t.Fatalf("Stands(%v, %v) = %v", l, weight, stands)
		}
		var corners []api.Prop
		for _, s := range mustHull(t, l) {
			corners = append(corners, api.Prop{At: s})
		}
		if mustStand(t, corners, weight) != stands {
			t.Fatalf("Stands(%v, %v) = %v, but not on its corners", l, weight, stands)
		}
		if !stands {
			continue
		}
		standing++
		if more := append(l, api.Prop{At: randomSpot(r, most)}); fell.Valid(more) && !mustStand(t, more, weight) {
			t.Fatalf("Stands(%v, %v): a further prop makes it fall", more, weight)
		}
	}
	if standing < 500 || standing > 2500 {
		t.Errorf("%d of 3000 stand", standing)
	}
}

// 6.2: Direction, and Towards a spot that way, the other way, across it, and where the weight is.
func TestDirection(t *testing.T) {
	for _, c := range []struct {
		name   string
		l      []api.Prop
		weight api.Spot
		want   api.Spot
	}{
		{"the example", example()[1:], sp(2, 2), sp(-1, -1)},
		{"over a slanting side", example(), sp(6, 7), sp(1, 1)},
		{"over a level side", example(), sp(7, -300), sp(0, -1)},
		{"over an upright side", example(), sp(-4, 3), sp(-1, 0)},
		{"over the upper side", square(), sp(5, 14), sp(0, 1)},
		{"over the right side", square(), sp(14, 5), sp(1, 0)},
		{"over a corner", square(), sp(16, 14), sp(3, 2)},
		{"over a corner, right above it", square(), sp(10, 14), sp(0, 1)},
		{"over a corner, right beside it", square(), sp(14, 10), sp(1, 0)},
		{"over the first corner", square(), sp(-6, -9), sp(-2, -3)},
		{"over a sharp corner", props(0, 0, 10, 1, 0, 2), sp(20, 2), sp(10, 1)},
		{"from one prop", props(3, 4), sp(3, -4), sp(0, -1)},
		{"from one prop, aslant", props(3, 4), sp(-3, 0), sp(-3, -2)},
		{"beside two", props(0, 0, 6, 3), sp(4, 3), sp(-1, 2)},
		{"beside two, on the other side", props(0, 0, 6, 3), sp(4, 1), sp(1, -2)},
		{"beyond two", props(0, 0, 6, 3), sp(10, 5), sp(2, 1)},
		{"before two", props(0, 0, 6, 3), sp(-1, 0), sp(-1, 0)},
		{"beyond three on a line", props(5, 5, 0, 0, 2, 2), sp(9, 9), sp(1, 1)},
		{"no common divisor", props(0, 0, 7, 3), sp(1, 1), sp(-3, 7)},
		{"far", props(10_000, 9_999), sp(-10_000, -10_000), sp(-20_000, -19_999)},
		{"over a long side", props(-10_000, -10_000, 9_999, 10_000), sp(0, 9_999), sp(-20_000, 19_999)},
	} {
		got, e := fell.Direction(c.l, c.weight)
		want(t, c.name+": Direction", got, e, c.want, api.OK)
		along := sp(min(max(c.want.X, -50), 50), min(max(c.want.Y, -50), 50))
		for _, to := range []struct {
			by   api.Spot
			want bool
		}{{along, true}, {sp(-along.X, -along.Y), false}, {sp(0, 0), false}} {
			s := sp(min(max(c.weight.X+to.by.X, -10_000), 10_000), min(max(c.weight.Y+to.by.Y, -10_000), 10_000))
			towards, e := fell.Towards(c.l, c.weight, s)
			want(t, c.name+": Towards", towards, e, to.want && s != c.weight, api.OK)
		}
	}
}

// 6.2: Towards.
func TestTowards(t *testing.T) {
	for _, c := range []struct {
		to   api.Spot
		want bool
	}{{sp(0, 0), true}, {sp(2, 1), true}, {sp(2, 3), false}, {sp(2, 2), false}, {sp(4, 0), false}, {sp(4, -1), true}, {sp(0, 4), false}, {sp(-1, 4), true}, {sp(10_000, -9_996), false}, {sp(10_000, -9_997), true}, {sp(10, 10), false}} {
		got, e := fell.Towards(example()[1:], sp(2, 2), c.to)
		want(t, "Towards", got, e, c.want, api.OK)
	}
}

// 6.2: Direction and Towards of a stack that stands, of no props, and of what is not valid or out of range.
func TestDirectionErrors(t *testing.T) {
	check := func(l []api.Prop, weight api.Spot, wantE api.Errno) {
		t.Helper()
		got, e := fell.Direction(l, weight)
		want(t, "Direction", got, e, sp(0, 0), wantE)
		towards, e := fell.Towards(l, weight, sp(-90, -90))
		want(t, "Towards", towards, e, false, wantE)
	}
	for _, s := range sps(2, 2, 0, 0, 5, 5, 10, 0) {
		check(example(), s, api.ErrState)
	}
	check(props(3, 4), sp(3, 4), api.ErrState)
	check(props(0, 0, 6, 3), sp(2, 1), api.ErrState)
	check(nil, sp(0, 0), api.ErrNone)
	check([]api.Prop{}, sp(3, 4), api.ErrNone)
	for _, s := range notSpots() {
		check(example(), s, api.ErrRange)
		check(nil, s, api.ErrRange)
		check(make([]api.Prop, 2), s, api.ErrInvalid)
		for _, l := range [][]api.Prop{example(), nil, example()[1:]} {
			towards, e := fell.Towards(l, sp(2, 2), s)
			want(t, "Towards", towards, e, false, api.ErrRange)
		}
	}
	for _, l := range wrongProps() {
		check(l, sp(0, 0), api.ErrInvalid)
		check(l, sp(77, -3), api.ErrInvalid)
	}
}

// P6.4 and P7: a stack falls from the nearest spot of its hull, as exact fractions tell it, and no prop is farther that way.
func TestFallsAway(t *testing.T) {
	r := random()
	falls := 0
	for range 3000 {
		most := scale(r)
		l, weight, to := randomProps(r, 1+r.IntN(9), most), randomSpot(r, most), randomSpot(r, most)
		d, e := fell.Direction(l, weight)
		towards, towardsE := fell.Towards(l, weight, to)
		if slowStands(l, weight) {
			want(t, "Direction", d, e, sp(0, 0), api.ErrState)
			want(t, "Towards", towards, towardsE, false, api.ErrState)
			continue
		}
		falls++
		v := slowWay(places(l), weight)
		want(t, "Direction", d, e, v.shortest(), api.OK)
		want(t, "Towards", towards, towardsE, slowTowards(l, weight, to), api.OK)
		along := v.length2() // of the way from the nearest spot to the weight
		for _, p := range l {
			back := way(p.At, weight)
			x, y := frac(back.X, 1), frac(back.Y, 1)
			x.Mul(x, v.x)
			if x.Add(x, y.Mul(y, v.y)).Cmp(along) < 0 {
				t.Fatalf("Direction(%v, %v) = %v: %v is farther that way", l, weight, d, p)
			}
		}
	}
	if falls < 500 {
		t.Errorf("%d of 3000 fall", falls)
	}
}

// 6.2: Burnt.
func TestBurnt(t *testing.T) {
	for _, c := range []struct {
		l, want []api.Prop
	}{
		{nil, nil},
		{example(), example()},
		{wooden(1, 2, 3, 4), nil},
		{slices.Concat(wooden(1, 2), props(3, 4), wooden(5, 6, 0, 0), props(-1, 7)), props(3, 4, -1, 7)},
		{row(24), row(24)},
	} {
		got, e := fell.Burnt(c.l)
		wantList(t, "Burnt", got, e, c.want, api.OK)
	}
	for _, l := range wrongProps() {
		got, e := fell.Burnt(l)
		wantList(t, "Burnt", got, e, nil, api.ErrInvalid)
	}
}
