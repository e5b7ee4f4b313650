package gear_test

import (
	"slices"
	"strings"
	"testing"

	"steeplejack/api"
	"steeplejack/gear"
)

// callAll makes all calls of the package.
func callAll(g []api.Item, r []api.Link, rigs [][]api.Link, name string, back []string, n int, loads []int) {
	gear.Valid(g)
	gear.ValidRig(g, r)
	gear.Find(g, name)
	gear.Ends(g, r)
	gear.Borne(g, r, loads)
	gear.May(g, r, back, n, loads)
	gear.Weak(g, r, back, n, loads)
	gear.Most(g, r, n)
	gear.Greatest(g, r)
	gear.Shares(g, r)
	gear.Until(g, r)
	gear.Called(g, name)
	gear.Touched(g, rigs, name)
	gear.Looked(g, name, n)
	gear.Swapped(g, r, n, name)
	gear.Taken(g, rigs)
	gear.Parse(gear.Format(g))
	gear.Parse(name)
}

// R1, P1 and P7.1: no call panics, whatever its numbers and strings.
func TestWildArguments(t *testing.T) {
	for _, a := range wild {
		for _, b := range wild {
			r := []api.Link{{Mark: "beam", From: a}, {Mark: "hook", From: b}}
			g := append(store(), item("m", a, b, "b"))
			callAll(store(), r, [][]api.Link{r, nil}, "hook", []string{"old"}, a, []int{b})
			callAll(g, example(), [][]api.Link{example(), r}, "m", nil, a, []int{a, b})
			r[0].From = -1
			callAll(store(), r, [][]api.Link{r}, "m", notNames, b, []int{a})
		}
	}
	for _, name := range append([]string{strings.Repeat("a", 1<<17), strings.Repeat(" ", api.MaxText)}, notNames...) {
		r := []api.Link{{Mark: name, From: -1}}
		callAll(store(), r, [][]api.Link{r}, name, []string{name}, 0, nil)
		callAll([]api.Item{item(name, 1, 1, name)}, r, nil, name, nil, 1, []int{1})
	}
	callAll(nil, nil, nil, "", nil, 0, nil)
	callAll(make([]api.Item, 1<<16), make([]api.Link, 1<<16), make([][]api.Link, 1<<16), "", make([]string, 1<<16), 0, make([]int, 1<<16))
}

// P7.1: calls with the largest gear and rigs end.
func TestLargest(t *testing.T) {
	g := alike(64, 1_000_000)
	r := random()
	rigs := make([][]api.Link, 50)
	for i := range rigs {
		rigs[i] = randomRig(r, g, 32)
	}
	for _, links := range [][]api.Link{chain(g, 32), star(g, 32), rigs[0], rigs[1]} {
		callAll(g, links, rigs, "m63", make([]string, 100), 50, make([]int, len(slowEnds(links))))
	}
}

// R4 and P7.1: neither arguments nor their spare capacity change.
func TestArgumentsStay(t *testing.T) {
	makeGear := func() []api.Item { return append(store(), alike(3, 9)...) }
	makeRig := func() []api.Link { return append(deep(), example()...) }
	makeRigs := func() [][]api.Link { return [][]api.Link{deep(), example(), example(), nil, example()} }
	makeBack := func() []string { return []string{"old", "none", "steel", "x", ""} }
	makeLoads := func() []int { return []int{400, 1_000, 2_000, 7, 7} }
	g, r, rigs, back, loads := makeGear(), makeRig(), makeRigs(), makeBack(), makeLoads()
	for n := range 6 {
		callAll(g[:6], r[:6], rigs[:3], g[n].Mark, back[:2], n, loads[:3])
		callAll(g[:7], r[:6], rigs[:2], "m0", back[:3], n*10, loads[:3])
	}
	if !slices.Equal(g, makeGear()) || !slices.Equal(r, makeRig()) || !slices.EqualFunc(rigs, makeRigs(), slices.Equal) || !slices.Equal(back, makeBack()) || !slices.Equal(loads, makeLoads()) {
		t.Errorf("arguments change: %v, %v, %v, %v, %v", g, r, rigs, back, loads)
	}
}

// checkNew checks that a call's result is new memory each time: the first one is overwritten, up to its capacity.
func checkNew[T comparable](t *testing.T, name string, call func() []T) {
	t.Helper()
	first := call()
	want := slices.Clone(first)
	first = first[:cap(first)]
	var zero T
	for i := range first {
		first[i] = zero
	}
	if len(want) == 0 || !slices.Equal(call(), want) {
		t.Errorf("%s: results share memory", name)
	}
}

// R4 and P7.1: results are new memory.
func TestNewMemory(t *testing.T) {
	g, r := append(store(), alike(3, 9)...), append(deep(), example()...)
	rigs := [][]api.Link{deep(), example()}
	keptGear, keptRig := slices.Clone(g), slices.Clone(r)
	g, r = g[:6], r[:5] // the ends are 2 and 4
	loads := []int{3, 4}
	checkNew(t, "Ends", func() []int { l, _ := gear.Ends(g, r); return l })
	checkNew(t, "Borne", func() []int { l, _ := gear.Borne(g, r, loads); return l })
	checkNew(t, "Borne by one", func() []int { l, _ := gear.Borne(g, r[:1], loads[:1]); return l })
	checkNew(t, "Weak", func() []int { l, _ := gear.Weak(g, r, nil, 50, loads); return l })
	checkNew(t, "Shares", func() []int { l, _ := gear.Shares(g, r); return l })
	checkNew(t, "Called", func() []int { l, _ := gear.Called(g, "steel"); return l })
	checkNew(t, "Touched", func() []int { l, _ := gear.Touched(g, rigs, "steel"); return l })
	checkNew(t, "Taken", func() []int { l, _ := gear.Taken(g, rigs); return l })
	for i, x := range store() {
		checkNew(t, "Looked", func() []api.Item { l, _ := gear.Looked(g, x.Mark, 7); return l })
		checkNew(t, "Looked, with the same Due", func() []api.Item { l, _ := gear.Looked(g, x.Mark, x.Due); return l })
		if i < len(r) {
			checkNew(t, "Swapped", func() []api.Link { l, _ := gear.Swapped(g, r, i, "sling_b"); return l })
		}
	}
	checkNew(t, "Parse", func() []api.Item { l, _, _ := gear.Parse("m 1 2 b\nn 3 4 b\n"); return l })
	if !slices.Equal(g[:cap(g)][:len(keptGear)], keptGear) || !slices.Equal(r[:cap(r)][:len(keptRig)], keptRig) || !slices.Equal(loads, []int{3, 4}) {
		t.Error("results share memory with arguments")
	}
}

// R4: nil and empty are alike.
func TestNilAndEmpty(t *testing.T) {
	for _, g := range [][]api.Item{nil, {}} {
		if !gear.Valid(g) || gear.Format(g) != "" || gear.ValidRig(g, example()) {
			t.Errorf("the gear %#v", g)
		}
		called, e := gear.Called(g, "b")
		wantList(t, "Called", called, e, nil, api.OK)
		for _, rigs := range [][][]api.Link{nil, {}} {
			touched, e := gear.Touched(g, rigs, "b")
			wantList(t, "Touched", touched, e, nil, api.OK)
			taken, e := gear.Taken(g, rigs)
			wantList(t, "Taken", taken, e, nil, api.OK)
		}
	}
	for _, back := range [][]string{nil, {}} {
		weak, e := gear.Weak(store(), example(), back, 50, []int{1, 1})
		wantList(t, "Weak", weak, e, nil, api.OK)
	}
	for _, r := range [][]api.Link{nil, {}} {
		if gear.ValidRig(store(), r) {
			t.Errorf("the rig %#v is valid", r)
		}
	}
}

// R7: the same call gives the same result.
func TestSameAgain(t *testing.T) {
	r := random()
	g := randomGear(r, 64, 99)
	rigs := make([][]api.Link, 50)
	for i := range rigs {
		rigs[i] = randomRig(r, g, 9)
	}
	taken, _ := gear.Taken(g, rigs)
	touched, _ := gear.Touched(g, rigs, "c_")
	shares := mustShares(t, g, rigs[0])
	for range 30 {
		again, e := gear.Taken(g, rigs)
		wantList(t, "Taken", again, e, taken, api.OK)
		again, e = gear.Touched(g, rigs, "c_")
		wantList(t, "Touched", again, e, touched, api.OK)
		again, e = gear.Shares(g, rigs[0])
		wantList(t, "Shares", again, e, shares, api.OK)
	}
}
