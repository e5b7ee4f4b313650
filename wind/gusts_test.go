package wind_test

import (
	"slices"
	"testing"

	"steeplejack/api"
	"steeplejack/wind"
)

// 8.2: Highest.
func TestHighest(t *testing.T) {
	l := gusts("30 - 0 55 200 - -")
	for _, c := range []struct{ from, to, want int }{
		{0, 7, 200}, {0, 4, 55}, {0, 3, 30}, {0, 1, 30}, {1, 3, 0}, {2, 3, 0}, {2, 4, 55}, {4, 7, 200}, {4, 5, 200}, {3, 4, 55},
	} {
		got, e := wind.Highest(l, c.from, c.to)
		want(t, "Highest", got, e, c.want, api.OK)
	}
	for _, c := range [][2]int{{1, 2}, {5, 7}, {5, 6}, {6, 7}, {0, 0}, {3, 3}, {7, 7}} {
		got, e := wind.Highest(l, c[0], c[1])
		want(t, "Highest", got, e, 0, api.ErrNone)
	}
	for _, c := range [][2]int{{1, 0}, {-1, 0}, {-1, 7}, {0, 8}, {7, 8}, {8, 8}, {7, 6}, {-1, -1}} {
		got, e := wind.Highest(l, c[0], c[1])
		want(t, "Highest", got, e, 0, api.ErrRange)
	}
	for _, a := range wild {
		for _, b := range wild {
			if a < 0 || b < a || b > len(l) {
				got, e := wind.Highest(l, a, b)
				want(t, "Highest", got, e, 0, api.ErrRange)
			}
		}
	}
	got, e := wind.Highest(nil, 0, 0)
	want(t, "Highest without minutes", got, e, 0, api.ErrNone)
	got, e = wind.Highest(nil, 0, 1)
	want(t, "Highest without minutes", got, e, 0, api.ErrRange)
}

// 8.2: Missing.
func TestMissing(t *testing.T) {
	for _, c := range []struct {
		l    string
		want []api.Span
	}{
		{"", nil},
		{"0 200 1", nil},
		{"-", []api.Span{span(0, 1)}},
		{"- - -", []api.Span{span(0, 3)}},
		{"0 - 0", []api.Span{span(1, 2)}},
		{"- 0 -", []api.Span{span(0, 1), span(2, 3)}},
		{"- - 5 5 - 0 - - -", []api.Span{span(0, 2), span(4, 5), span(6, 9)}},
	} {
		got, e := wind.Missing(gusts(c.l))
		wantList(t, "Missing", got, e, c.want, api.OK)
	}
	got, e := wind.Missing(slices.Repeat([]int{-1}, 2_000))
	wantList(t, "Missing", got, e, []api.Span{span(0, 2_000)}, api.OK)
	r := random()
	for range 500 {
		l := randomGusts(r, r.IntN(40), 1+r.IntN(5))
		is := make([]bool, len(l))
		for m, g := range l {
			is[m] = g == -1
		}
		got, e := wind.Missing(l)
		wantList(t, "Missing", got, e, slowSpans(is, true), api.OK)
	}
}

// 8.2: Joined.
func TestJoined(t *testing.T) {
	for _, c := range []struct{ l, m, want string }{
		{"", "", ""},
		{"5", "7", "7"},
		{"7", "5", "7"},
		{"7", "7", "7"},
		{"-", "0", "0"},
		{"0", "-", "0"},
		{"-", "-", "-"},
		{"30 - 0 - 200 1", "29 5 - - 0 2", "30 5 0 - 200 2"},
	} {
		got, e := wind.Joined(gusts(c.l), gusts(c.m))
		wantList(t, "Joined", got, e, gusts(c.want), api.OK)
	}
	for _, c := range []struct{ l, m string }{{"", "1"}, {"1", ""}, {"1 2", "1"}, {"- -", "- - -"}} {
		got, e := wind.Joined(gusts(c.l), gusts(c.m))
		wantList(t, "Joined", got, e, nil, api.ErrSize)
	}
	most := slices.Repeat([]int{3}, 2_000)
	got, e := wind.Joined(most, most)
	wantList(t, "Joined", got, e, most, api.OK)
	got, e = wind.Joined(most, most[1:])
	wantList(t, "Joined", got, e, nil, api.ErrSize)
}
