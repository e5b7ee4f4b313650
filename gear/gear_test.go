package gear_test

import (
	"slices"
	"testing"

	"steeplejack/api"
	"steeplejack/gear"
)

// 7.1: Valid.
func TestValid(t *testing.T) {
	right := [][]api.Item{nil, {}, store(), alike(1, 1), alike(64, 1), alike(64, 1_000_000), {item("m", 1, 0, "m"), item("n", 1_000_000, 100_000, "m")}, {item("a", 1, 0, "b"), item("aa", 1, 0, "b"), item("a_", 1, 0, "b")}}
	for _, name := range names {
		right = append(right, []api.Item{item(name, 1, 1, "b"), item("m", 1, 1, name)})
	}
	for _, g := range right {
		if !gear.Valid(g) {
			t.Errorf("%v is not valid", g)
		}
	}
	wrong := append(wrongGear(), alike(65, 1), make([]api.Item, 1), make([]api.Item, 1<<16))
	for _, x := range wrongItems() {
		wrong = append(wrong, []api.Item{x})
	}
	for _, g := range wrong {
		if gear.Valid(g) {
			t.Errorf("%v is valid", g)
		}
	}
}

// 7.1: Find.
func TestFind(t *testing.T) {
	for i, x := range store() {
		got, e := gear.Find(store(), x.Mark)
		want(t, "Find", got, e, i, api.OK)
	}
	got, e := gear.Find(alike(64, 1), "m63")
	want(t, "Find the last", got, e, 63, api.OK)
	for _, mark := range append([]string{"hooks", "hoo", "steel", "beam "}, notNames...) {
		got, e := gear.Find(store(), mark)
		want(t, "Find", got, e, 0, api.ErrName)
		got, e = gear.Find(nil, mark)
		want(t, "Find in no gear", got, e, 0, api.ErrName)
	}
	for _, g := range wrongGear() {
		for _, mark := range []string{"hook", "shackle", "none", ""} {
			got, e := gear.Find(g, mark)
			want(t, "Find", got, e, 0, api.ErrInvalid)
		}
	}
}

// 7.3: Called.
func TestCalled(t *testing.T) {
	for _, c := range []struct {
		batch string
		want  []int
	}{
		{"old", []int{0}},
		{"steel", []int{1, 4}},
		{"hemp1", []int{2, 5}},
		{"hemp2", []int{3}},
		{"hemp", nil},
		{"hemp1 ", nil},
		{"beam", nil},
	} {
		got, e := gear.Called(store(), c.batch)
		wantList(t, "Called", got, e, c.want, api.OK)
	}
	for _, batch := range notNames {
		got, e := gear.Called(store(), batch)
		wantList(t, "Called", got, e, nil, api.OK)
		got, e = gear.Called(nil, batch)
		wantList(t, "Called of no gear", got, e, nil, api.OK)
	}
	for _, g := range wrongGear() {
		got, e := gear.Called(g, "old")
		wantList(t, "Called", got, e, nil, api.ErrInvalid)
	}
}

// 7.3: Looked.
func TestLooked(t *testing.T) {
	for i, x := range store() {
		for _, due := range []int{0, 1, x.Due, x.Due - 1, 100_000} {
			changed := store()
			changed[i].Due = due
			got, e := gear.Looked(store(), x.Mark, due)
			wantList(t, "Looked", got, e, changed, api.OK)
		}
	}
	for _, mark := range append([]string{"hooks", "steel"}, notNames...) {
		got, e := gear.Looked(store(), mark, 5)
		wantList(t, "Looked", got, e, nil, api.ErrName)
		got, e = gear.Looked(nil, mark, 5)
		wantList(t, "Looked in no gear", got, e, nil, api.ErrName)
	}
	for _, due := range notDays {
		got, e := gear.Looked(store(), "hook", due)
		wantList(t, "Looked", got, e, nil, api.ErrRange)
		got, e = gear.Looked(store(), "none", due)
		wantList(t, "Looked of no item", got, e, nil, api.ErrRange)
	}
	for _, g := range wrongGear() {
		for _, due := range []int{5, -1} {
			for _, mark := range []string{"hook", "none"} {
				got, e := gear.Looked(g, mark, due)
				wantList(t, "Looked", got, e, nil, api.ErrInvalid)
			}
		}
	}
}

// 7.3: Touched and Taken.
func TestRigs(t *testing.T) {
	one, two, three := example(), links("hook:-1"), links("spare:-1 shackle:0")
	for _, c := range []struct {
		name    string
		rigs    [][]api.Link
		batch   string
		touched []int
		taken   []int
	}{
		{"no rigs", nil, "steel", nil, nil},
		{"one rig", [][]api.Link{one}, "steel", []int{0}, nil},
		{"another batch", [][]api.Link{one}, "old", nil, nil},
		{"rigs of their own", [][]api.Link{one, two, three}, "steel", []int{0, 2}, nil},
		{"an end's batch", [][]api.Link{two, three, one}, "hemp2", []int{2}, nil},
		{"a topmost link's batch", [][]api.Link{two, three, one}, "hemp1", []int{1, 2}, nil},
		{"twice the same", [][]api.Link{two, two}, "old", []int{0, 1}, []int{0}},
		{"thrice the same", [][]api.Link{one, one, one}, "hemp1", []int{0, 1, 2}, []int{1, 2, 3}},
		{"one has all", [][]api.Link{deep(), two, three, one}, "hemp2", []int{0, 3}, []int{0, 1, 2, 3, 4, 5}},
		{"some", [][]api.Link{links("spare:-1 hook:0"), one, links("hook:-1 sling_b:0")}, "old", []int{0, 2}, []int{0, 3}},
		{"the most", slices.Repeat([][]api.Link{two}, 50), "none", nil, []int{0}},
		{"the last of the most", append(slices.Repeat([][]api.Link{two}, 49), three), "hemp1", []int{49}, []int{0}},
	} {
		touched, e := gear.Touched(store(), c.rigs, c.batch)
		wantList(t, c.name+": Touched", touched, e, c.touched, api.OK)
		taken, e := gear.Taken(store(), c.rigs)
		wantList(t, c.name+": Taken", taken, e, c.taken, api.OK)
	}
	for _, batch := range notNames {
		touched, e := gear.Touched(store(), [][]api.Link{one, two, three}, batch)
		wantList(t, "Touched", touched, e, nil, api.OK)
	}
}

// 7.3: errors of Touched and Taken.
func TestRigsErrors(t *testing.T) {
	check := func(g []api.Item, rigs [][]api.Link, want api.Errno) {
		t.Helper()
		touched, e := gear.Touched(g, rigs, "steel")
		wantList(t, "Touched", touched, e, nil, want)
		taken, e := gear.Taken(g, rigs)
		wantList(t, "Taken", taken, e, nil, want)
	}
	check(store(), slices.Repeat([][]api.Link{example()}, 51), api.ErrLimit)
	check(store(), make([][]api.Link, 51), api.ErrLimit)
	check(nil, make([][]api.Link, 1<<16), api.ErrLimit)
	check(store(), make([][]api.Link, 50), api.ErrInvalid)
	check(nil, [][]api.Link{example()}, api.ErrInvalid)
	for _, r := range wrongRigs() {
		check(store(), [][]api.Link{r}, api.ErrInvalid)
		check(store(), [][]api.Link{example(), r, deep()}, api.ErrInvalid)
		check(store(), append(slices.Repeat([][]api.Link{example()}, 49), r), api.ErrInvalid)
		check(store(), append(slices.Repeat([][]api.Link{example()}, 50), r), api.ErrLimit)
	}
	for _, g := range wrongGear() {
		check(g, nil, api.ErrInvalid)
		check(g, [][]api.Link{example()}, api.ErrInvalid)
		check(g, make([][]api.Link, 51), api.ErrInvalid)
	}
}

// 7.3: Called, Touched and Taken of random rigs, as the chapter words them.
func TestRigsAgainstWords(t *testing.T) {
	r := random()
	for range 1000 {
		g := randomGear(r, 1+r.IntN(20), 9)
		rigs, batch := randomRigs(r, g, min(5, len(g))), randomBatch(r)
		var called, taken []int
		for i, x := range g {
			if x.Batch == batch {
				called = append(called, i)
			}
			rigsWith := 0
			for _, links := range rigs {
				if slices.ContainsFunc(links, func(y api.Link) bool { return y.Mark == x.Mark }) {
					rigsWith++
				}
			}
			if rigsWith > 1 {
				taken = append(taken, i)
			}
		}
		got, e := gear.Called(g, batch)
		wantList(t, "Called", got, e, called, api.OK)
		got, e = gear.Touched(g, rigs, batch)
		wantList(t, "Touched", got, e, rigsOf(g, rigs, batch), api.OK)
		got, e = gear.Taken(g, rigs)
		wantList(t, "Taken", got, e, taken, api.OK)
	}
}
