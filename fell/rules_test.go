package fell_test

import (
	"math"
	"slices"
	"testing"

	"steeplejack/api"
	"steeplejack/fell"
)

// callAll makes all calls of the package.
func callAll(l []api.Prop, weight, to api.Spot, deeds []int, z api.Zone, things, ways []api.Spot) {
	fell.Valid(l)
	fell.Hull(l)
	fell.Stands(l, weight)
	fell.After(l, deeds)
	fell.Right(l, weight, deeds)
	fell.Fells(l, weight, deeds)
	fell.Needed(l, weight)
	fell.Direction(l, weight)
	fell.Towards(l, weight, to)
	fell.Burnt(l)
	fell.Plan(l, weight, to)
	fell.ValidZone(z)
	fell.In(z, to)
	fell.Hit(z, things)
	fell.Clear(z.Foot, z.Reach, z.Wide, things, ways)
	fell.Widest(z.Foot, z.To, z.Reach, things)
	fell.Parse(fell.Format(l))
}

// R1, P1 and P6.1: no call panics, whatever its numbers.
func TestWildNumbers(t *testing.T) {
	for _, a := range wild {
		for _, b := range wild {
			s := sp(a, b)
			callAll(example(), s, sp(b, a), []int{a, b}, zone(a, b, 0, 0, 1, 1), []api.Spot{s}, sps(1, 1))
			callAll(example(), sp(2, 2), s, []int{0, a, b}, zone(0, 0, a, b, 1, 1), sps(1, 1), []api.Spot{s})
			callAll(append(example(), api.Prop{At: s}), sp(2, 2), sp(b, a), []int{a}, zone(0, 0, 9, 9, a, b), []api.Spot{s}, []api.Spot{s, sp(b, a)})
			callAll(nil, s, s, []int{a}, zone(0, 0, 9, 9, a, b), nil, nil)
		}
	}
	callAll(make([]api.Prop, 1<<16), sp(0, 0), sp(0, 0), make([]int, 1<<16), exampleZone(), make([]api.Spot, 1<<16), make([]api.Spot, 1<<16))
}

// P6.1: a plan for the most props ends, also if there is none.
func TestPlanEnds(t *testing.T) {
	r := random()
	for range 5 {
		l := append(randomProps(r, 8, 10_000), props(-9_999, -9_999, 9_999, -9_999, 9_999, 9_999, -9_999, 9_999)...)
		got, e := fell.Plan(l, sp(3, 4), sp(3, 4))
		wantList(t, "Plan", got, e, nil, api.ErrNone)
	}
}

// R4 and P6.1: neither arguments nor their spare capacity change.
func TestArgumentsStay(t *testing.T) {
	makeProps := func() []api.Prop {
		return slices.Concat(square(), wooden(7, 9, -3, 2, 0, 5), props(0, 10, 5, -5, 99, 99))
	}
	makeDeeds := func() []int { return []int{8, 9, 2, 0, 7, 7} }
	makeThings := func() []api.Spot { return sps(50, 10, 50, 11, 0, 0, 3, 9, 4, 4) }
	makeWays := func() []api.Spot { return sps(0, 0, 10, 0, 0, 10, 77, 1) }
	l, deeds, things, ways := makeProps(), makeDeeds(), makeThings(), makeWays()
	for _, weight := range sps(5, 5, 2, 3, -9, -9, 4, 0) {
		for _, to := range sps(9, 5, 0, 0, 3, 90) {
			callAll(l[:8], weight, to, deeds[:4], exampleZone(), things[:3], ways[:3])
		}
	}
	if !slices.Equal(l, makeProps()) || !slices.Equal(deeds, makeDeeds()) || !slices.Equal(things, makeThings()) || !slices.Equal(ways, makeWays()) {
		t.Errorf("arguments change: %v, %v, %v, %v", l, deeds, things, ways)
	}
}

// checkNew checks that a call's result is new memory each time, and shares none with the props.
func checkNew[T comparable](t *testing.T, name string, l []api.Prop, call func() []T) {
	t.Helper()
	kept := slices.Clone(l[:cap(l)])
	first := call()
	want := slices.Clone(first)
	first = first[:cap(first)]
	var zero T
	for i := range first {
		first[i] = zero
	}
	if len(want) == 0 || !slices.Equal(call(), want) || !slices.Equal(l[:cap(l)], kept) {
		t.Errorf("%s: results share memory", name)
	}
}

// R4 and P6.1: results are new memory.
func TestNewMemory(t *testing.T) {
	l := append(square(), props(99, 99, 77, 77)...)[:5]
	checkNew(t, "Hull", l, func() []api.Spot { h, _ := fell.Hull(l); return h })
	checkNew(t, "Hull of one", l, func() []api.Spot { h, _ := fell.Hull(l[1:2]); return h })
	checkNew(t, "After", l, func() []int { a, _ := fell.After(l, []int{2}); return a })
	checkNew(t, "After nothing", l, func() []int { a, _ := fell.After(l, nil); return a })
	checkNew(t, "Needed", l, func() []int { n, _ := fell.Needed(l, sp(2, 2)); return n })
	checkNew(t, "Burnt", l, func() []api.Prop { b, _ := fell.Burnt(l); return b })
	checkNew(t, "Plan", l, func() []int { p, _ := fell.Plan(l, sp(5, 5), sp(9, 5)); return p })
	checkNew(t, "Hit", l, func() []int { h, _ := fell.Hit(exampleZone(), sps(50, 10, 50, 11, 3, 0)); return h })
	checkNew(t, "Parse", l, func() []api.Prop { p, _, _ := fell.Parse("1 2\n3 4 wood\n"); return p })
}

// R4: nil and empty are alike.
func TestNilAndEmpty(t *testing.T) {
	for _, l := range [][]api.Prop{nil, {}} {
		if !fell.Valid(l) || fell.Format(l) != "" || !fell.Right(l, sp(0, 0), []int{}) || fell.Fells(l, sp(0, 0), []int{}) {
			t.Errorf("the foot %#v", l)
		}
		corners, e := fell.Hull(l)
		wantList(t, "Hull", corners, e, nil, api.OK)
		after, e := fell.After(l, []int{})
		wantList(t, "After", after, e, nil, api.OK)
		left, e := fell.Burnt(l)
		wantList(t, "Burnt", left, e, nil, api.OK)
	}
	for _, l := range [][]api.Spot{nil, {}} {
		hit, e := fell.Hit(exampleZone(), l)
		wantList(t, "Hit", hit, e, nil, api.OK)
		i, e := fell.Clear(sp(0, 0), 1, 0, l, sps(1, 1))
		want(t, "Clear", i, e, 0, api.OK)
		i, e = fell.Clear(sp(0, 0), 1, 0, nil, l)
		want(t, "Clear", i, e, 0, api.ErrNone)
		i, e = fell.Widest(sp(0, 0), sp(1, 1), 1, l)
		want(t, "Widest", i, e, 1000, api.OK)
	}
}

// R2: where several arguments are wrong, what the chapter names first decides.
func TestFirstError(t *testing.T) {
	wrong, far := make([]api.Prop, 2), sp(math.MaxInt, 0)
	stands, e := fell.Stands(wrong, far)
	want(t, "Stands", stands, e, false, api.ErrInvalid)
	towards, e := fell.Towards(example(), sp(2, 2), far)
	want(t, "Towards what stands", towards, e, false, api.ErrRange)
	plan, e := fell.Plan(row(13), sp(0, 1), sp(0, 1))
	wantList(t, "Plan", plan, e, nil, api.ErrState)
	wide, e := fell.Widest(sp(0, 0), sp(0, 0), 1, []api.Spot{far})
	want(t, "Widest", wide, e, 0, api.ErrRange)
	after, e := fell.After(example(), []int{0, 0, -1})
	wantList(t, "After", after, e, nil, api.ErrRange)
}

// R7: the same call gives the same result.
func TestSameAgain(t *testing.T) {
	first, _ := fell.Plan(square(), sp(5, 5), sp(5, 6))
	for range 50 {
		again, e := fell.Plan(square(), sp(5, 5), sp(5, 6))
		wantList(t, "Plan", again, e, first, api.OK)
		corners, e := fell.Hull(square())
		wantList(t, "Hull", corners, e, sps(0, 0, 10, 0, 10, 10, 0, 10), api.OK)
	}
}
