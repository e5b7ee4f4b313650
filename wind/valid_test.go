package wind_test

import (
	"slices"
	"testing"

	"steeplejack/api"
	"steeplejack/wind"
)

// 8.1: ValidGusts.
func TestValidGusts(t *testing.T) {
	for _, l := range [][]int{nil, {}, {0}, {-1}, {200}, {1, -1, 199}, make([]int, 2_000), slices.Repeat([]int{200}, 2_000), slices.Repeat([]int{-1}, 2_000)} {
		if !wind.ValidGusts(l) {
			t.Errorf("%v are not valid", l)
		}
	}
	for _, l := range wrongGusts() {
		if wind.ValidGusts(l) {
			t.Errorf("%v are valid", l)
		}
	}
}

// 8.1: ValidRule.
func TestValidRule(t *testing.T) {
	for _, r := range []api.Rule{example, ruleOf(1, 1, 1), ruleOf(200, 200, 240), ruleOf(200, 1, 1), ruleOf(1, 1, 240), ruleOf(50, 50, 1), ruleOf(50, 49, 239)} {
		if !wind.ValidRule(r) {
			t.Errorf("%v is not valid", r)
		}
	}
	for _, r := range wrongRules() {
		if wind.ValidRule(r) {
			t.Errorf("%v is valid", r)
		}
	}
}

// 8.3: ValidCasts.
func TestValidCasts(t *testing.T) {
	right := [][]api.Cast{nil, {}, manyCasts(200)}
	for _, words := range []string{"0:1:0:0", "0:1:200:200", "0:100000:0:200", "99999:100000:7:7", "0:5:0:9 5:8:0:9", "0:5:0:9 6:8:3:4", "1:5:9:9 5:6:0:0 100:200:1:2 99999:100000:0:200"} {
		right = append(right, casts(words))
	}
	for _, c := range right {
		if !wind.ValidCasts(c) {
			t.Errorf("%v is not valid", c)
		}
	}
	for _, c := range wrongCasts() {
		if wind.ValidCasts(c) {
			t.Errorf("%v is valid", c)
		}
	}
}

// invalid checks all calls that have a rule and gusts.
func invalid(t *testing.T, r api.Rule, l []int) {
	t.Helper()
	for _, n := range []int{0, -1, 1 << 20} { // no minutes of most of these gusts
		goes, e := wind.Goes(r, l, n)
		want(t, "Goes", goes, e, false, api.ErrInvalid)
		minutes, e := wind.Minutes(r, l, n, n)
		want(t, "Minutes", minutes, e, 0, api.ErrInvalid)
	}
	stops, e := wind.Stops(r, l)
	wantList(t, "Stops", stops, e, nil, api.ErrInvalid)
	longest, e := wind.Longest(r, l)
	want(t, "Longest", longest, e, api.Span{}, api.ErrInvalid)
	resumes, e := wind.Resumes(r, l)
	want(t, "Resumes", resumes, e, 0, api.ErrInvalid)
	least, most, e := wind.Bounds(r, l)
	want(t, "Bounds", [2]int{least, most}, e, [2]int{}, api.ErrInvalid)
	for _, rules := range [][]api.Rule{{r}, {example, r}, {r, example}, slices.Repeat([]api.Rule{r}, 21), append(slices.Repeat([]api.Rule{example}, 20), r)} {
		strictest, e := wind.Strictest(l, rules)
		want(t, "Strictest", strictest, e, 0, api.ErrInvalid)
	}
}

// 8.1 and 8.2: rules that are not valid, before all numbers.
func TestInvalidRules(t *testing.T) {
	for _, r := range wrongRules() {
		for _, l := range [][]int{nil, {0}, {-1}, {200}, gusts("30 55 45 35 35 30")} {
			invalid(t, r, l)
		}
	}
}

// 8.1 and 8.2: gusts that are not valid, before all numbers.
func TestInvalidGusts(t *testing.T) {
	for _, l := range wrongGusts() {
		invalid(t, example, l)
		invalid(t, api.Rule{}, l)
		strictest, e := wind.Strictest(l, nil)
		want(t, "Strictest", strictest, e, 0, api.ErrInvalid)
		for _, n := range []int{0, -1, 1 << 20} {
			highest, e := wind.Highest(l, n, n)
			want(t, "Highest", highest, e, 0, api.ErrInvalid)
		}
		missing, e := wind.Missing(l)
		wantList(t, "Missing", missing, e, nil, api.ErrInvalid)
		for _, m := range [][]int{nil, {0}, {1, 2}, l, make([]int, 2_000)} {
			joined, e := wind.Joined(l, m)
			wantList(t, "Joined", joined, e, nil, api.ErrInvalid)
			joined, e = wind.Joined(m, l)
			wantList(t, "Joined", joined, e, nil, api.ErrInvalid)
		}
		for _, c := range append(wrongCasts(), nil, casts("0:5:0:9")) {
			kept, e := wind.Kept(c, l)
			wantList(t, "Kept", kept, e, nil, api.ErrInvalid)
		}
		if s := wind.Format(l); s != "" {
			t.Errorf("Format(%v) = %q", l, s)
		}
	}
}

// 8.3: forecasts that are not valid, before all numbers.
func TestInvalidCasts(t *testing.T) {
	for _, c := range wrongCasts() {
		for _, n := range []int{1, 0, -1, 1 << 20} {
			sure, e := wind.Sure(c, n, n, n, n)
			want(t, "Sure", sure, e, 0, api.ErrInvalid)
			maybe, e := wind.Maybe(c, n, n, n, n)
			want(t, "Maybe", maybe, e, 0, api.ErrInvalid)
		}
		merged, e := wind.Merged(c)
		wantList(t, "Merged", merged, e, nil, api.ErrInvalid)
		for _, l := range [][]int{nil, {0}, {-1, 200}} {
			kept, e := wind.Kept(c, l)
			wantList(t, "Kept", kept, e, nil, api.ErrInvalid)
		}
	}
}
