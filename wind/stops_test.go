package wind_test

import (
	"math/rand/v2"
	"slices"
	"testing"

	"steeplejack/api"
	"steeplejack/wind"
)

// goesIn is a word for each minute: x if work goes in it.
func goesIn(t *testing.T, r api.Rule, l []int) string {
	t.Helper()
	s := ""
	for m := range l {
		if mustGoes(t, r, l, m) {
			s += "x"
		} else {
			s += "."
		}
	}
	return s
}

// 8.1: Stops, Goes, Minutes, Longest and Resumes.
func TestStops(t *testing.T) {
	for _, c := range []struct {
		name    string
		r       api.Rule
		l       string
		goes    string
		stops   []api.Span
		longest api.Span // none is the zero value
		resumes int      // 0 if work would go
	}{
		{"no minutes", example, "", "", nil, api.Span{}, 0},
		{"the example", example, "30 55 45 35 35 30", "x....x", []api.Span{span(1, 5)}, span(0, 1), 0},
		{"the example without a reading", example, "30 55 - 35 35 30", "x....x", []api.Span{span(1, 5)}, span(0, 1), 0},
		{"no reading stops work", example, "30 - 35 35 30", "x...x", []api.Span{span(1, 4)}, span(0, 1), 0},
		{"no stop", example, "0 49 40 49", "xxxx", nil, span(0, 4), 0},
		{"a gust of Stop", example, "49 50 49", "x..", []api.Span{span(1, 3)}, span(0, 1), 2},
		{"more than Stop", example, "200 0", "..", []api.Span{span(0, 2)}, api.Span{}, 1},
		{"no reading alone", example, "-", ".", []api.Span{span(0, 1)}, api.Span{}, 2},
		{"a gust of Go is not calm", example, "50 39 40 39 39 0", ".....x", []api.Span{span(0, 5)}, span(5, 6), 0},
		{"just below Go is calm", example, "50 39 39 40", "...x", []api.Span{span(0, 3)}, span(3, 4), 0},
		{"not in a row", example, "50 39 - 39 50 39 39 49", ".......x", []api.Span{span(0, 7)}, span(7, 8), 0},
		{"work would go after the last minute", example, "30 50 39 39", "x...", []api.Span{span(1, 4)}, span(0, 1), 0},
		{"one calm minute at the end", example, "30 50 39", "x..", []api.Span{span(1, 3)}, span(0, 1), 1},
		{"calm no longer at the end", example, "30 50 39 40", "x...", []api.Span{span(1, 4)}, span(0, 1), 2},
		{"stopped where it would go again", example, "50 39 39 50 39 39 0", "......x", []api.Span{span(0, 6)}, span(6, 7), 0},
		{"no reading where it would go again", example, "50 39 39 - 39 39 0", "......x", []api.Span{span(0, 6)}, span(6, 7), 0},
		{"rough but no stop where it goes again", example, "50 39 39 49 49", "...xx", []api.Span{span(0, 3)}, span(3, 5), 0},
		{"two stops", example, "50 39 39 0 50 39 39 0 0", "...x...xx", []api.Span{span(0, 3), span(4, 7)}, span(7, 9), 0},
		{"the first one of the longest", example, "0 0 50 0 0 0 0 50 0", "xx...xx..", []api.Span{span(2, 5), span(7, 9)}, span(0, 2), 1},
		{"the last one goes on", example, "0 50 0 0 0 - 0", "x...x..", []api.Span{span(1, 4), span(5, 7)}, span(0, 1), 1},
		{"the longest is the last", example, "0 - 0 0 0 0 - 0 0 0 0 0", "x...xx...xxx", []api.Span{span(1, 4), span(6, 9)}, span(9, 12), 0},
		{"the longest is between", example, "0 - 0 0 0 0 0 - 0 0 0", "x...xxx...x", []api.Span{span(1, 4), span(7, 10)}, span(4, 7), 0},
		{"Calm 1", ruleOf(50, 40, 1), "50 0 0 50 40 0 50 0", "..x.....", []api.Span{span(0, 2), span(3, 8)}, span(2, 3), 0},
		{"Calm 1, stopped each other minute", ruleOf(50, 40, 1), "50 0 50 0 50", ".....", []api.Span{span(0, 5)}, api.Span{}, 1},
		{"Go is Stop", ruleOf(50, 50, 2), "49 50 49 49 49", "x...x", []api.Span{span(1, 4)}, span(0, 1), 0},
		{"the first minute is not calm", ruleOf(1, 1, 1), "1 0 0", "..x", []api.Span{span(0, 2)}, span(2, 3), 0},
		{"no reading is not calm", ruleOf(1, 1, 1), "- - - 0 0", "....x", []api.Span{span(0, 4)}, span(4, 5), 0},
		{"Go 1", ruleOf(200, 1, 2), "199 200 1 0 0 199", "x....x", []api.Span{span(1, 5)}, span(0, 1), 0},
		{"the greatest Calm", ruleOf(200, 200, 240), "0 200 199", "x..", []api.Span{span(1, 3)}, span(0, 1), 239},
	} {
		l := gusts(c.l)
		if goes := goesIn(t, c.r, l); goes != c.goes {
			t.Errorf("%s: Goes is %s, want %s", c.name, goes, c.goes)
		}
		stops, e := wind.Stops(c.r, l)
		wantList(t, c.name+": Stops", stops, e, c.stops, api.OK)
		longest, e := wind.Longest(c.r, l)
		want(t, c.name+": Longest", longest, e, c.longest, errorIf(c.longest == api.Span{}, api.ErrNone))
		resumes, e := wind.Resumes(c.r, l)
		want(t, c.name+": Resumes", resumes, e, c.resumes, errorIf(c.resumes == 0, api.ErrState))
		checkMinutes(t, c.r, l)
	}
}

// errorIf is an error if there is to be one.
func errorIf(is bool, e api.Errno) api.Errno {
	if is {
		return e
	}
	return api.OK
}

// checkMinutes checks Minutes of all parts of gusts.
func checkMinutes(t *testing.T, r api.Rule, l []int) {
	t.Helper()
	goes := slowGoes(r, l)
	for from := range len(l) + 1 {
		for to := from; to <= len(l); to++ {
			n, e := wind.Minutes(r, l, from, to)
			want(t, "Minutes", n, e, howMany(goes[from:to]), api.OK)
		}
	}
}

// 8.1: minutes that there are not.
func TestStopsErrors(t *testing.T) {
	l := gusts("30 55 45 35 35 30")
	for _, n := range wild {
		if 0 <= n && n < len(l) {
			continue
		}
		goes, e := wind.Goes(example, l, n)
		want(t, "Goes", goes, e, false, api.ErrRange)
		for _, m := range wild {
			minutes, e := wind.Minutes(example, l, n, m)
			want(t, "Minutes", minutes, e, 0, api.ErrRange)
			minutes, e = wind.Minutes(example, l, m, n)
			want(t, "Minutes", minutes, e, 0, api.ErrRange)
		}
	}
	for _, c := range [][2]int{{1, 0}, {6, 5}, {6, 7}, {7, 7}, {0, 7}, {-1, 6}, {-1, -1}} {
		minutes, e := wind.Minutes(example, l, c[0], c[1])
		want(t, "Minutes", minutes, e, 0, api.ErrRange)
	}
	goes, e := wind.Goes(example, nil, 0)
	want(t, "Goes without minutes", goes, e, false, api.ErrRange)
	goes, e = wind.Goes(example, l, 6)
	want(t, "Goes in the minute after the last", goes, e, false, api.ErrRange)
	minutes, e := wind.Minutes(example, nil, 0, 0)
	want(t, "Minutes without minutes", minutes, e, 0, api.OK)
	minutes, e = wind.Minutes(example, nil, 0, 1)
	want(t, "Minutes without minutes", minutes, e, 0, api.ErrRange)
}

// randomDay is a rule and gusts of which some may be missing.
func randomDay(r *rand.Rand) (api.Rule, []int) {
	return randomRule(r), randomGusts(r, r.IntN(40), r.IntN(20))
}

// 8.1: all of a rule, as the chapter words it.
func TestStopsAgainstWords(t *testing.T) {
	r := random()
	stopped, none := 0, 0
	for range 3000 {
		rule, l := randomDay(r)
		goes := slowGoes(rule, l)
		for m, slow := range goes {
			if got := mustGoes(t, rule, l, m); got != slow {
				t.Fatalf("Goes(%v, %v, %d) = %v", rule, l, m, got)
			}
		}
		stops, e := wind.Stops(rule, l)
		wantList(t, "Stops", stops, e, slowSpans(goes, false), api.OK)
		var slow api.Span
		for _, x := range slices.Backward(slowSpans(goes, true)) {
			if x.To-x.From >= slow.To-slow.From {
				slow = x
			}
		}
		longest, e := wind.Longest(rule, l)
		want(t, "Longest", longest, e, slow, errorIf(!slices.Contains(goes, true), api.ErrNone))
		if slow == (api.Span{}) {
			none++
		}
		resumes, e := wind.Resumes(rule, l)
		slowResumes := slowResumes(rule, l)
		want(t, "Resumes", resumes, e, slowResumes, errorIf(slowResumes == 0, api.ErrState))
		if resumes > 0 {
			stopped++
		}
		if t.Failed() {
			t.Fatalf("of %v and %v", rule, l)
		}
	}
	if stopped < 500 || stopped > 2500 || none < 100 {
		t.Errorf("%d of 3000 are stopped, %d never go", stopped, none)
	}
}

// slowResumes appends calm minutes until work goes in one more.
func slowResumes(r api.Rule, l []int) int {
	for n := 0; ; n++ {
		calm := slices.Concat(l, make([]int, n+1))
		if slowGoes(r, calm)[len(l)+n] {
			return n
		}
	}
}

// 8.1: each one of the calm minutes that Resumes tells is waited for.
func TestResumesCounts(t *testing.T) {
	rule := ruleOf(50, 40, 240)
	l := []int{50}
	for n := 240; n > 0; n-- {
		resumes, e := wind.Resumes(rule, l)
		want(t, "Resumes", resumes, e, n, api.OK)
		l = append(l, 39)
	}
	resumes, e := wind.Resumes(rule, l)
	want(t, "Resumes", resumes, e, 0, api.ErrState)
	if goes := mustGoes(t, rule, append(l, 49), 241); !goes {
		t.Error("work does not go again")
	}
	if goes := mustGoes(t, rule, append(l, 50), 241); goes {
		t.Error("work goes in a gust that stops it")
	}
}

// P8.2: each minute is in a stop, or work goes in it; stops do not touch; no gust of Stop or more, and no missing one, has work going.
func TestStopsArePartsOfMinutes(t *testing.T) {
	r := random()
	for range 3000 {
		rule, l := randomDay(r)
		in := make([]bool, len(l))
		last := -1
		for _, x := range mustStops(t, rule, l) {
			if x.From <= last || x.To <= x.From || x.To > len(l) {
				t.Fatalf("Stops(%v, %v): %v behind %d", rule, l, x, last)
			}
			last = x.To
			for m := x.From; m < x.To; m++ {
				in[m] = true
			}
		}
		for m, g := range l {
			goes := mustGoes(t, rule, l, m)
			if goes == in[m] || goes && (g >= rule.Stop || g < 0) {
				t.Fatalf("Goes(%v, %v, %d) = %v, in a stop: %v", rule, l, m, goes, in[m])
			}
		}
	}
}

// P8.3: with a lesser Stop the first stop is never later; with a greater Calm work goes in no more minutes.
func TestStricter(t *testing.T) {
	r := random()
	for range 3000 {
		rule, l := randomDay(r)
		lesser := rule
		lesser.Stop = rule.Go + r.IntN(rule.Stop-rule.Go+1)
		stops, first := mustStops(t, rule, l), mustStops(t, lesser, l)
		if len(stops) > 0 && (len(first) == 0 || first[0].From > stops[0].From) {
			t.Fatalf("%v: %v by %v, %v by %v", l, stops, rule, first, lesser)
		}
		greater := rule
		greater.Calm += r.IntN(4)
		for m := range l {
			if mustGoes(t, greater, l, m) && !mustGoes(t, rule, l, m) {
				t.Fatalf("%v: work goes in the minute %d by %v, not by %v", l, m, greater, rule)
			}
		}
	}
}

// 8.2: Strictest.
func TestStrictest(t *testing.T) {
	l := gusts("30 55 45 35 35 30 60 0")
	calm, strict, strictest := ruleOf(61, 40, 2), ruleOf(50, 40, 1), ruleOf(50, 40, 3)
	for _, c := range []struct {
		name  string
		l     []int
		rules []api.Rule
		want  int
	}{
		{"one", l, []api.Rule{calm}, 0},
		{"the last", l, []api.Rule{calm, strict, strictest}, 2},
		{"the first", l, []api.Rule{strictest, strict, calm}, 0},
		{"between", l, []api.Rule{calm, strictest, strict}, 1},
		{"of several the first", l, []api.Rule{calm, strict, strictest, strictest, strict}, 2},
		{"of others the first", gusts("0 49 48"), []api.Rule{strict, strictest, calm}, 0},
		{"one for which work goes always", gusts("0 49 48"), []api.Rule{calm, calm, ruleOf(49, 1, 1)}, 2},
		{"without minutes", nil, []api.Rule{calm, strictest}, 0},
		{"never", gusts("- - -"), []api.Rule{calm, strictest, strict}, 0},
		{"the most", l, append(slices.Repeat([]api.Rule{calm}, 19), strict), 19},
	} {
		got, e := wind.Strictest(c.l, c.rules)
		want(t, c.name, got, e, c.want, api.OK)
	}
	for _, rules := range [][]api.Rule{nil, {}, slices.Repeat([]api.Rule{calm}, 21), slices.Repeat([]api.Rule{strict}, 1<<10)} {
		for _, l := range [][]int{nil, l} {
			got, e := wind.Strictest(l, rules)
			want(t, "Strictest", got, e, 0, api.ErrRange)
		}
	}
	r := random()
	for range 500 {
		_, l := randomDay(r)
		rules := make([]api.Rule, 1+r.IntN(20))
		for i := range rules {
			rules[i] = randomRule(r)
		}
		slow := 0
		for i, x := range rules {
			if howMany(slowGoes(x, l)) < howMany(slowGoes(rules[slow], l)) {
				slow = i
			}
		}
		got, e := wind.Strictest(l, rules)
		want(t, "Strictest", got, e, slow, api.OK)
	}
}
