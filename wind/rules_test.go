package wind_test

import (
	"slices"
	"strings"
	"testing"

	"steeplejack/api"
	"steeplejack/wind"
)

// callAll makes all calls of the package.
func callAll(r api.Rule, l, m []int, rules []api.Rule, c []api.Cast, a, b int, s string) {
	wind.ValidGusts(l)
	wind.ValidRule(r)
	wind.Stops(r, l)
	wind.Goes(r, l, a)
	wind.Minutes(r, l, a, b)
	wind.Longest(r, l)
	wind.Resumes(r, l)
	wind.Bounds(r, l)
	wind.Strictest(l, rules)
	wind.Highest(l, a, b)
	wind.Missing(l)
	wind.Joined(l, m)
	wind.ValidCasts(c)
	wind.Sure(c, a, b, a, b)
	wind.Sure(c, 40, 5, a, b)
	wind.Maybe(c, a, b, a, b)
	wind.Maybe(c, 40, 5, a, b)
	wind.Merged(c)
	wind.Kept(c, l)
	wind.Parse(wind.Format(l))
	wind.Parse(s)
}

// R1, P1 and P8.1: no call panics, whatever its numbers and strings.
func TestWildArguments(t *testing.T) {
	l := gusts("30 55 - 35 35 30")
	for _, a := range wild {
		for _, b := range wild {
			rules := []api.Rule{ruleOf(a, b, 2), ruleOf(50, a, b), ruleOf(b, 1, a)}
			forecasts := [][]api.Cast{{{From: a, To: b, Lo: 0, Hi: 9}}, {{From: 0, To: 9, Lo: a, Hi: b}}, {{From: a, To: 9, Lo: b, Hi: 9}}, {{From: 0, To: a, Lo: 0, Hi: b}, {From: b, To: a, Lo: 0, Hi: 9}}, day()}
			for _, r := range append(rules, example) {
				callAll(r, []int{a, 0, b}, l, rules, forecasts[0], a, b, "")
			}
			for _, c := range forecasts {
				callAll(example, l, []int{a, b}, nil, c, a, b, "-")
			}
		}
	}
	for _, s := range []string{"", " ", "-", "\x00", "\xff", strings.Repeat("9", 1<<17), strings.Repeat("9", 60_000), strings.Repeat(" ", api.MaxText), strings.Repeat("- ", api.MaxText/2)} {
		callAll(example, nil, nil, nil, nil, 0, 0, s)
	}
	callAll(api.Rule{}, nil, nil, nil, nil, 0, 0, "")
	callAll(example, make([]int, 1<<16), make([]int, 1<<16), make([]api.Rule, 1<<16), make([]api.Cast, 1<<16), 0, 1<<16, "")
}

// P8.1: calls with the most gusts, rules and casts end.
func TestLargest(t *testing.T) {
	missing := slices.Repeat([]int{-1}, 2_000)
	longest := ruleOf(200, 200, 240)
	callAll(longest, missing, missing, slices.Repeat([]api.Rule{longest}, 20), manyCasts(200), 0, 2_000, "")
	c := manyCasts(199)
	c = append(c, api.Cast{From: 199, To: 100_000, Lo: 9, Hi: 200})
	for _, mark := range []int{1, 100, 200} {
		wind.Sure(c, mark, 10_000, 0, 100_000)
		wind.Maybe(c, mark, 10_000, 0, 100_000)
	}
	wind.Kept(c, missing)
}

// R4 and P8.1: neither arguments nor their spare capacity change.
func TestArgumentsStay(t *testing.T) {
	makeGusts := func() []int { return gusts("30 55 - 35 35 30 - 7 7 7") }
	makeOthers := func() []int { return gusts("- 5 - 99 35 30 60 8 8 8") }
	makeRules := func() []api.Rule { return []api.Rule{example, ruleOf(50, 50, 1), ruleOf(60, 1, 240), {}} }
	makeCasts := func() []api.Cast { return append(casts("0:1:5:30 1:2:5:30 2:3:5:30"), day()...) }
	l, m, rules, c := makeGusts(), makeOthers(), makeRules(), makeCasts()
	for n := range 8 {
		callAll(example, l[:7], m[:7], rules[:2], c[:2], n, 7, "")
		callAll(rules[1], m[:8], l[:8], rules[:3], c[:3], 0, n, "")
		callAll(rules[2], l[:n], m[:n], rules[:1], c[:1], 1, 2, "")
	}
	if !slices.Equal(l, makeGusts()) || !slices.Equal(m, makeOthers()) || !slices.Equal(rules, makeRules()) || !slices.Equal(c, makeCasts()) {
		t.Errorf("arguments change: %v, %v, %v, %v", l, m, rules, c)
	}
}

// checkNew checks that a call's result is new memory each time: the first one is overwritten, up to its capacity.
func checkNew[T comparable](t *testing.T, name string, call func() []T) {
	t.Helper()
	first := call()
	want := slices.Clone(first)
	first = first[:cap(first)]
	var zero T
	for i := range first {
		first[i] = zero
	}
	if len(want) == 0 || !slices.Equal(call(), want) {
		t.Errorf("%s: results share memory", name)
	}
}

// R4 and P8.1: results are new memory.
func TestNewMemory(t *testing.T) {
	l, m, c := gusts("30 55 - 35 35 30 - 7"), gusts("1 1 1 1 1 1 1 1"), casts("0:1:5:20 1:2:5:20 2:5:0:9")
	keptGusts, keptOthers, keptCasts := slices.Clone(l), slices.Clone(m), slices.Clone(c)
	checkNew(t, "Stops", func() []api.Span { x, _ := wind.Stops(example, l); return x })
	checkNew(t, "Missing", func() []api.Span { x, _ := wind.Missing(l); return x })
	checkNew(t, "Joined", func() []int { x, _ := wind.Joined(l, m); return x })
	checkNew(t, "Joined with itself", func() []int { x, _ := wind.Joined(m, m); return x })
	checkNew(t, "Merged", func() []api.Cast { x, _ := wind.Merged(c); return x })
	checkNew(t, "Merged where nothing is", func() []api.Cast { x, _ := wind.Merged(c[1:]); return x })
	checkNew(t, "Kept", func() []int { x, _ := wind.Kept(c, l); return x })
	checkNew(t, "Parse", func() []int { x, _ := wind.Parse("30 - 55"); return x })
	if !slices.Equal(l, keptGusts) || !slices.Equal(m, keptOthers) || !slices.Equal(c, keptCasts) {
		t.Error("results share memory with arguments")
	}
}

// R4: nil and empty are alike.
func TestNilAndEmpty(t *testing.T) {
	for _, l := range [][]int{nil, {}} {
		if !wind.ValidGusts(l) || wind.Format(l) != "" {
			t.Errorf("the gusts %#v", l)
		}
		stops, e := wind.Stops(example, l)
		wantList(t, "Stops", stops, e, nil, api.OK)
		longest, e := wind.Longest(example, l)
		want(t, "Longest", longest, e, api.Span{}, api.ErrNone)
		resumes, e := wind.Resumes(example, l)
		want(t, "Resumes", resumes, e, 0, api.ErrState)
		missing, e := wind.Missing(l)
		wantList(t, "Missing", missing, e, nil, api.OK)
		joined, e := wind.Joined(l, []int{})
		wantList(t, "Joined", joined, e, nil, api.OK)
		joined, e = wind.Joined(nil, l)
		wantList(t, "Joined", joined, e, nil, api.OK)
	}
	for _, c := range [][]api.Cast{nil, {}} {
		if !wind.ValidCasts(c) {
			t.Errorf("the forecast %#v", c)
		}
		merged, e := wind.Merged(c)
		wantList(t, "Merged", merged, e, nil, api.OK)
		maybe, e := wind.Maybe(c, 40, 5, 3, 8)
		want(t, "Maybe", maybe, e, 3, api.OK)
	}
	for _, rules := range [][]api.Rule{nil, {}} {
		strictest, e := wind.Strictest(nil, rules)
		want(t, "Strictest", strictest, e, 0, api.ErrRange)
	}
}

// R7: the same call gives the same result.
func TestSameAgain(t *testing.T) {
	r := random()
	rule, l := randomRule(r), randomGusts(r, 2_000, 9)
	stops := mustStops(t, rule, l)
	least, most := mustBounds(t, rule, l)
	for range 10 {
		again, e := wind.Stops(rule, l)
		wantList(t, "Stops", again, e, stops, api.OK)
		lo, hi := mustBounds(t, rule, l)
		want(t, "Bounds", [2]int{lo, hi}, api.OK, [2]int{least, most}, api.OK)
	}
}
