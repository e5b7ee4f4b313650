package fell_test

import (
	"math"
	"testing"

	"steeplejack/api"
	"steeplejack/fell"
)

// 6.3: ValidZone.
func TestValidZone(t *testing.T) {
	for _, z := range []api.Zone{
		exampleZone(),
		zone(0, 0, 1, 0, 1, 0),
		zone(0, 0, 0, 1, 20_000, 1000),
		zone(-10_000, 10_000, 10_000, -10_000, 20_000, 1000),
		zone(5, 7, 5, 8, 1, 1000),
	} {
		if !fell.ValidZone(z) {
			t.Errorf("%v is not valid", z)
		}
	}
	for _, z := range wrongZones() {
		if fell.ValidZone(z) {
			t.Errorf("%v is valid", z)
		}
	}
}

// 6.3: In.
func TestIn(t *testing.T) {
	for _, c := range []struct {
		name string
		z    api.Zone
		s    api.Spot
		want bool
	}{
		{"the example", exampleZone(), sp(50, 10), true},
		{"the example's other spot", exampleZone(), sp(50, 11), false},
		{"on the other side", exampleZone(), sp(50, -10), true},
		{"beyond the other side", exampleZone(), sp(50, -11), false},
		{"its foot", exampleZone(), sp(0, 0), true},
		{"its To", exampleZone(), sp(10, 0), true},
		{"at its Reach", exampleZone(), sp(100, 0), true},
		{"beyond its Reach", exampleZone(), sp(101, 0), false},
		{"a corner, farther than its Reach", exampleZone(), sp(100, 20), true},
		{"beyond a corner", exampleZone(), sp(100, 21), false},
		{"behind it", exampleZone(), sp(-1, 0), false},
		{"beside its foot", exampleZone(), sp(0, 1), false},
		{"a narrow one's To", zone(3, 4, 9, 12, 100, 0), sp(9, 12), true},
		{"on a narrow one's line", zone(3, 4, 9, 12, 100, 0), sp(6, 8), true},
		{"beside a narrow one's line", zone(3, 4, 9, 12, 100, 0), sp(7, 8), false},
		{"behind a narrow one's foot", zone(3, 4, 9, 12, 100, 0), sp(0, 0), false},
		{"a To that is beyond its Reach", zone(3, 4, 9, 12, 9, 0), sp(9, 12), false},
		{"a To at its Reach", zone(3, 4, 9, 12, 10, 0), sp(9, 12), true},
		{"half a right angle", zone(0, 0, 0, 5, 9, 1000), sp(-7, 7), true},
		{"beyond half a right angle", zone(0, 0, 0, 5, 9, 1000), sp(-8, 7), false},
		{"aslant", zone(0, 0, 1, 1, 10, 0), sp(7, 7), true},
		{"aslant, too far", zone(0, 0, 1, 1, 10, 0), sp(8, 8), false},
		{"the greatest numbers", zone(-10_000, -10_000, 10_000, 10_000, 20_000, 1000), sp(4_142, 4_142), true},
		{"the greatest numbers, too far", zone(-10_000, -10_000, 10_000, 10_000, 20_000, 1000), sp(4_143, 4_143), false},
		{"the greatest numbers, farthest", zone(-10_000, -10_000, 10_000, 10_000, 20_000, 1000), sp(10_000, 10_000), false},
		{"the greatest numbers, beside", zone(-10_000, -10_000, 10_000, 10_000, 20_000, 999), sp(10_000, -10_000), false},
		{"the greatest numbers, at the side", zone(-10_000, -10_000, 10_000, 10_000, 20_000, 1000), sp(10_000, -10_000), true},
		{"a thousandth", zone(0, 0, 1, 0, 20_000, 1), sp(1000, 1), true},
		{"just above a thousandth", zone(0, 0, 1, 0, 20_000, 1), sp(999, 1), false},
	} {
		got, e := fell.In(c.z, c.s)
		want(t, c.name+": In", got, e, c.want, api.OK)
	}
}

// 6.3: In and Hit of a zone that is not valid, and of what is no spot; Hit of too many things.
func TestZoneErrors(t *testing.T) {
	for _, s := range notSpots() {
		got, e := fell.In(exampleZone(), s)
		want(t, "In", got, e, false, api.ErrRange)
		got, e = fell.In(api.Zone{}, s)
		want(t, "In", got, e, false, api.ErrInvalid)
	}
	for _, things := range notThings() {
		hit, e := fell.Hit(exampleZone(), things)
		wantList(t, "Hit", hit, e, nil, api.ErrRange)
		hit, e = fell.Hit(api.Zone{}, things)
		wantList(t, "Hit", hit, e, nil, api.ErrInvalid)
	}
	for _, z := range wrongZones() {
		got, e := fell.In(z, z.Foot)
		want(t, "In", got, e, false, api.ErrInvalid)
		hit, e := fell.Hit(z, sps(0, 0, 5, 0))
		wantList(t, "Hit", hit, e, nil, api.ErrInvalid)
		hit, e = fell.Hit(z, nil)
		wantList(t, "Hit", hit, e, nil, api.ErrInvalid)
	}
}

// 6.3: Hit.
func TestHit(t *testing.T) {
	for _, c := range []struct {
		things []api.Spot
		want   []int
	}{
		{nil, nil},
		{sps(50, 11, -1, 0), nil},
		{sps(50, 11, 50, 10, -1, 0, 0, 0, 101, 0, 50, 10), []int{1, 3, 5}},
		{sps(0, 0), []int{0}},
		{append(make([]api.Spot, 2), sps(0, 1, 10, 0)...), []int{0, 1, 3}},
		{append(randomSpots(random(), 39, 0), sp(0, 1)), []int{0, 1, 2, 3, 4, 5, 6, 7, 8, 9, 10, 11, 12, 13, 14, 15, 16, 17, 18, 19, 20, 21, 22, 23, 24, 25, 26, 27, 28, 29, 30, 31, 32, 33, 34, 35, 36, 37, 38}},
	} {
		got, e := fell.Hit(exampleZone(), c.things)
		wantList(t, "Hit", got, e, c.want, api.OK)
	}
}

// P6.5: In and Hit as the chapter words them; and a greater Reach or Wide leaves nothing out that was in.
func TestGreaterZones(t *testing.T) {
	r := random()
	inside := 0
	for range 3000 {
		most := []int{3, 30, 10_000}[r.IntN(3)]
		l := randomSpots(r, 42, most)
		z := api.Zone{Foot: l[0], To: l[1], Reach: 1 + r.IntN(2*most), Wide: r.IntN(1001)}
		if z.Foot == z.To {
			continue
		}
		things := l[2:]
		hit, e := fell.Hit(z, things)
		wantList(t, "Hit", hit, e, slowHit(z, things), api.OK)
		inside += len(hit)
		far, broad := z, z
		far.Reach += r.IntN(20_001 - z.Reach)
		broad.Wide += r.IntN(1001 - z.Wide)
		for i, s := range things {
			in := mustIn(t, z, s)
			if in != slowIn(z, s) {
				t.Fatalf("In(%v, %v) = %v", z, s, in)
			}
			if in && !(mustIn(t, far, s) && mustIn(t, broad, s)) {
				t.Fatalf("%v is in %v, but not in both %v and %v (thing %d)", s, z, far, broad, i)
			}
		}
	}
	if inside < 3000 {
		t.Errorf("%d things are in a zone", inside)
	}
}

// 6.3: Clear.
func TestClear(t *testing.T) {
	right, up, left, down := sp(10, 0), sp(0, 10), sp(-10, 0), sp(0, -10)
	for _, c := range []struct {
		name         string
		reach, wide  int
		things, ways []api.Spot
		want         int
		e            api.Errno
	}{
		{"nothing in the way", 100, 200, nil, []api.Spot{right, up}, 0, api.OK},
		{"something in the first way", 100, 200, sps(50, 10), []api.Spot{right, up}, 1, api.OK},
		{"something beside the first way", 100, 200, sps(50, 11), []api.Spot{right, up}, 0, api.OK},
		{"something beyond the first way", 49, 200, sps(50, 10), []api.Spot{right, up}, 0, api.OK},
		{"something in three ways", 100, 0, sps(0, 1, -100, 0, 5, 0), []api.Spot{right, up, left, down, down}, 3, api.OK},
		{"something in all", 100, 1000, sps(1, 1, -1, 1, -1, -1), []api.Spot{right, up, left, down}, 0, api.ErrNone},
		{"something at the foot", 1, 0, sps(0, 0), []api.Spot{right, up, left, down}, 0, api.ErrNone},
		{"no ways", 100, 200, nil, nil, 0, api.ErrNone},
		{"the foot itself", 100, 200, nil, sps(0, 0), 0, api.ErrNone},
		{"the foot itself first", 100, 200, sps(50, 10), []api.Spot{{}, right, {}, up}, 3, api.OK},
		{"the least reach and wide", 1, 0, sps(2, 0), []api.Spot{right}, 0, api.OK},
		{"the greatest reach and wide", 20_000, 1000, sps(-1, 0, 7, 8), []api.Spot{left, right}, 1, api.OK},
		{"the most things and ways", 100, 200, randomSpots(random(), 40, 2), sps(0, 0), 0, api.ErrNone},
	} {
		got, e := fell.Clear(sp(0, 0), c.reach, c.wide, c.things, c.ways)
		want(t, c.name+": Clear", got, e, c.want, c.e)
	}
	ways := append(make([]api.Spot, 39), up)
	got, e := fell.Clear(sp(0, 0), 100, 200, make([]api.Spot, 40), ways)
	want(t, "Clear with the most things and ways", got, e, 0, api.ErrNone)
	got, e = fell.Clear(sp(0, 0), 100, 200, sps(50, 10), ways)
	want(t, "Clear with the last of the most ways", got, e, 39, api.OK)
}

// notReaches is numbers that are no reach, notWides ones that are no wide.
var (
	notReaches = []int{math.MinInt, -1, 0, 20_001, math.MaxInt}
	notWides   = []int{math.MinInt, -1, 1001, math.MaxInt}
)

// 6.3: Clear with what is out of range.
func TestClearErrors(t *testing.T) {
	check := func(foot api.Spot, reach, wide int, things, ways []api.Spot) {
		t.Helper()
		got, e := fell.Clear(foot, reach, wide, things, ways)
		want(t, "Clear", got, e, 0, api.ErrRange)
	}
	for _, ways := range [][]api.Spot{nil, sps(10, 0, 0, 10)} { // the first of which would be clear
		for _, s := range notSpots() {
			check(s, 100, 200, nil, ways)
		}
		for _, n := range notReaches {
			check(sp(0, 0), n, 200, nil, ways)
		}
		for _, n := range notWides {
			check(sp(0, 0), 100, n, nil, ways)
		}
		for _, l := range notThings() {
			check(sp(0, 0), 100, 200, l, ways)
		}
	}
	for _, l := range notThings() {
		check(sp(0, 0), 100, 200, nil, l)
		check(sp(0, 0), 100, 200, sps(0, 0), l)
	}
}

// 6.3: Widest.
func TestWidest(t *testing.T) {
	foot, to := sp(0, 0), sp(10, 0)
	for _, c := range []struct {
		name   string
		reach  int
		things []api.Spot
		want   int
		e      api.Errno
	}{
		{"no things", 100, nil, 1000, api.OK},
		{"the example", 100, sps(50, 10), 199, api.OK},
		{"the example's other spot", 100, sps(50, 11), 219, api.OK},
		{"rounded down", 100, sps(30, 10), 333, api.OK},
		{"the nearest of several", 100, sps(50, 10, 60, -3, 70, 70), 49, api.OK},
		{"the least", 20_000, sps(5000, 5), 0, api.OK},
		{"less than a thousandth", 20_000, sps(5000, 1), 0, api.OK},
		{"on the line", 100, sps(50, 10, 60, 0), 0, api.ErrNone},
		{"at the foot", 100, sps(0, 0), 0, api.ErrNone},
		{"on the line, beyond the reach", 100, sps(101, 0), 1000, api.OK},
		{"on the line, at the reach", 101, sps(101, 0), 0, api.ErrNone},
		{"on the line, behind", 100, sps(-1, 0), 1000, api.OK},
		{"beside the foot", 100, sps(0, 1, 0, -9), 1000, api.OK},
		{"half a right angle", 100, sps(7, 7), 999, api.OK},
		{"more than half a right angle", 100, sps(7, 8), 1000, api.OK},
		{"just less than half a right angle", 2000, sps(1001, 1000), 999, api.OK},
		{"the most things", 100, make([]api.Spot, 40), 0, api.ErrNone},
	} {
		got, e := fell.Widest(foot, to, c.reach, c.things)
		want(t, c.name+": Widest", got, e, c.want, c.e)
	}
}

// 6.3: Widest with what is out of range, and from a foot to itself.
func TestWidestErrors(t *testing.T) {
	check := func(foot, to api.Spot, reach int, things []api.Spot, wantE api.Errno) {
		t.Helper()
		got, e := fell.Widest(foot, to, reach, things)
		want(t, "Widest", got, e, 0, wantE)
	}
	check(sp(3, 4), sp(3, 4), 100, nil, api.ErrState)
	check(sp(3, 4), sp(3, 4), 100, sps(3, 4), api.ErrState)
	for _, s := range notSpots() {
		check(s, sp(0, 0), 100, nil, api.ErrRange)
		check(sp(0, 0), s, 100, nil, api.ErrRange)
		check(s, s, 100, nil, api.ErrRange)
	}
	for _, to := range sps(9, 0, 0, 0) {
		for _, n := range notReaches {
			check(sp(0, 0), to, n, nil, api.ErrRange)
		}
		for _, l := range notThings() {
			check(sp(0, 0), to, 100, l, api.ErrRange)
		}
	}
}

// P6.5: with the Widest no thing is in the zone, and with one more some thing is.
func TestWidestIsGreatest(t *testing.T) {
	r := random()
	between := 0
	for range 3000 {
		most := []int{3, 30, 10_000}[r.IntN(3)]
		l := randomSpots(r, 3+r.IntN(4), most)
		z := api.Zone{Foot: l[0], To: l[1], Reach: 1 + r.IntN(2*most)}
		if z.Foot == z.To {
			continue
		}
		wide, e := fell.Widest(z.Foot, z.To, z.Reach, l[2:])
		if e == api.ErrNone {
			if wide != 0 || len(slowHit(z, l[2:])) == 0 {
				t.Fatalf("Widest(%v, %v) = %d, error %d", z, l[2:], wide, e)
			}
			continue
		}
		wider := z
		z.Wide, wider.Wide = wide, wide+1
		if e != api.OK || !fell.ValidZone(z) || len(slowHit(z, l[2:])) > 0 || wide < 1000 && len(slowHit(wider, l[2:])) == 0 {
			t.Fatalf("Widest(%v, %v) = %d, error %d", z, l[2:], wide, e)
		}
		if wide < 1000 {
			between++
		}
	}
	if between < 300 {
		t.Errorf("%d of 3000 are below 1000", between)
	}
}

// 6.3: Clear's way is the first whose zone hits nothing.
func TestClearIsFirst(t *testing.T) {
	r := random()
	var later, none int
	for range 2000 {
		l := randomSpots(r, 16, 5)
		foot, things, ways := l[0], l[1:8], l[8:]
		reach, wide := 1+r.IntN(8), r.IntN(1001)
		got, e := fell.Clear(foot, reach, wide, things, ways)
		first, firstE := 0, api.ErrNone
		for i, to := range ways {
			if to != foot && len(slowHit(api.Zone{Foot: foot, To: to, Reach: reach, Wide: wide}, things)) == 0 {
				first, firstE = i, api.OK
				break
			}
		}
		want(t, "Clear", got, e, first, firstE)
		if firstE == api.ErrNone {
			none++
		} else if first > 1 {
			later++
		}
	}
	if none < 50 || later < 50 {
		t.Errorf("%d without a clear way, %d with a later one", none, later)
	}
}
