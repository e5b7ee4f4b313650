package rope_test

import (
	"slices"
	"testing"

	"steeplejack/api"
	"steeplejack/rope"
)

// R1, P1 and P4.1: no call panics, whatever its numbers.
func TestWildNumbers(t *testing.T) {
	for _, a := range wild {
		for _, b := range wild {
			rope.ValidTackle(tackle(a, b))
			rope.Gain(tackle(a, b))
			rope.ValidLoads(a, loads(b, a))
			rope.Shares(a, loads(b, a))
			rope.Middle(a, loads(b, a))
			rope.Retires(example(), uses(a, b))
			rope.Format(uses(a, b, b, a))
			for _, c := range wild {
				rope.Lifted(tackle(a, b), c)
				rope.Pull(tackle(a, b), c)
				rope.Hauled(tackle(a, b), c)
				rope.Parts(a, b, c)
				rope.Walk(4000, loads(1000, 800), a, b)
				rope.Walk(a, loads(0, b), c, 100)
				rope.Level(a, loads(b, c), b)
				wildWear(api.Rope{Strength: a, Daily: b, Least: c}, exampleUses(), a, b)
				wildWear(example(), uses(a, b, c, a), b, c)
				wildWear(example(), exampleUses(), a, b)
			}
		}
	}
}

// wildWear makes all calls that take a rope.
func wildWear(r api.Rope, u []api.Use, day, load int) {
	rope.ValidRope(r)
	rope.ValidUses(u)
	rope.Left(r, u, day)
	rope.May(r, u, day, load)
	rope.Safe(r, u, day)
	rope.Retires(r, u)
	rope.Used(r, u, day, load)
	rope.Wrong(r, u)
	rope.Weakest([]api.Rope{r, r}, [][]api.Use{u, nil}, day)
}

// R4 and P4.1: neither arguments nor their spare capacity change.
func TestArgumentsStay(t *testing.T) {
	allLoads, allUses := loads(1000, 800, 2000, 100, 3, 4), append(exampleUses(), api.Use{Day: 7, Load: 7}, api.Use{Day: 8, Load: 8})
	l, u := allLoads[:2], allUses[:4]
	rope.ValidLoads(4000, l)
	rope.Shares(4000, l)
	rope.Walk(4000, l, 800, 1000)
	rope.Middle(4000, l)
	rope.Level(4000, l, 800)
	wildWear(example(), u, 40, 5)
	rope.Format(u)
	if !slices.Equal(allLoads, loads(1000, 800, 2000, 100, 3, 4)) || !slices.Equal(allUses, append(exampleUses(), uses(7, 7, 8, 8)...)) {
		t.Errorf("arguments change: %v, %v", allLoads, allUses)
	}
}

// R4 and P4.1: results are new memory.
func TestNewMemory(t *testing.T) {
	u := append(exampleUses(), api.Use{Day: 50, Load: 1})[:4]
	for _, c := range []struct {
		name string
		call func() []api.Use
	}{
		{"Used", func() []api.Use { l, _ := rope.Used(example(), u, 40, 5); return l }},
		{"Used without uses", func() []api.Use { l, _ := rope.Used(example(), u[:0], 40, 5); return l }},
		{"Parse", func() []api.Use { l, _, _ := rope.Parse("1 2\n3 4\n"); return l }},
	} {
		first := c.call()
		kept := slices.Clone(first)
		first = first[:cap(first)]
		for i := range first {
			first[i] = api.Use{Day: -7, Load: -7}
		}
		if second := c.call(); len(kept) == 0 || !slices.Equal(second, kept) || !slices.Equal(u, exampleUses()) || u[:5][4].Day != 50 {
			t.Errorf("%s: results share memory", c.name)
		}
	}
	first, _ := rope.Wrong(example(), u)
	first[0] = -7
	if second, _ := rope.Wrong(example(), u); !slices.Equal(second, []int{2}) {
		t.Error("Wrong: results share memory")
	}
}

// R4: nil and empty are alike.
func TestNilAndEmpty(t *testing.T) {
	for _, l := range [][]api.Load{nil, {}} {
		first, second, e := rope.Shares(1, l)
		wantRatio(t, "Shares", first, e, rat(0, 1), api.OK)
		wantRatio(t, "Shares", second, e, rat(0, 1), api.OK)
	}
	for _, u := range [][]api.Use{nil, {}} {
		n, e := rope.Retires(example(), u)
		wantNumber(t, "Retires", n, e, 501, api.OK)
		l, e := rope.Used(example(), u, 3, 4)
		if e != api.OK || !slices.Equal(l, uses(3, 4)) {
			t.Errorf("Used = %v, error %d", l, e)
		}
		w, e := rope.Wrong(example(), u)
		if e != api.OK || len(w) > 0 || rope.Format(u) != "" {
			t.Errorf("Wrong = %v, error %d", w, e)
		}
	}
	for _, r := range [][]api.Rope{nil, {}} {
		n, e := rope.Weakest(r, [][]api.Use{}, 0)
		wantNumber(t, "Weakest", n, e, 0, api.ErrSize)
	}
}

// R7: the same call gives the same result.
func TestSameAgain(t *testing.T) {
	r := random()
	x, u := randomRope(r), randomUses(r, 100, 40)
	left := mustLeft(t, x, u, 60)
	for range 50 {
		if mustLeft(t, x, u, 60) != left {
			t.Fatal("another result")
		}
	}
}
