package wind_test

import (
	"slices"
	"testing"

	"steeplejack/api"
	"steeplejack/wind"
)

// day is a forecast with a gap from 20 to 30, and none from 50 on.
func day() []api.Cast {
	return casts("0:10:5:30 10:15:0:40 15:20:35:60 30:40:0:20 40:45:20:39 45:50:0:10")
}

const none = -1 // no window

// 8.3: Sure and Maybe.
func TestWindows(t *testing.T) {
	for _, c := range []struct {
		name              string
		c                 []api.Cast
		mark, n, from, to int
		sure, maybe       int
	}{
		{"at once", day(), 40, 10, 0, 100, 0, 0},
		{"Hi must be below the mark", day(), 40, 11, 0, 100, 30, 0},
		{"Hi just below it", day(), 41, 15, 0, 100, 0, 0},
		{"over several casts", day(), 40, 20, 0, 100, 30, 0},
		{"one more than there are", day(), 40, 21, 0, 100, none, 0},
		{"Lo may be less", day(), 35, 15, 0, 100, none, 0},
		{"Lo must not be the mark", day(), 35, 16, 0, 100, none, 20},
		{"Lo just below it", day(), 36, 20, 0, 100, none, 0},
		{"a gap may be, and is not sure", day(), 20, 10, 16, 100, none, 20},
		{"a gap and what is behind it", day(), 20, 20, 16, 100, none, 20},
		{"and no more", day(), 20, 21, 16, 100, none, 45},
		{"it begins in a cast", day(), 31, 3, 5, 100, 5, 5},
		{"it begins at the last minute of a cast", day(), 31, 1, 9, 100, 9, 9},
		{"it begins behind a cast", day(), 31, 1, 10, 100, 30, 10},
		{"it ends at to", day(), 31, 3, 5, 8, 5, 5},
		{"it ends at to, behind a cast", day(), 40, 12, 10, 42, 30, 10},
		{"it would end behind to", day(), 31, 3, 5, 7, none, none},
		{"it would end behind to, later", day(), 40, 12, 10, 41, none, 10},
		{"it would end behind to, anywhere", day(), 20, 12, 15, 31, none, none},
		{"no minutes", day(), 200, 1, 5, 5, none, none},
		{"no minutes at the end", day(), 200, 1, 100_000, 100_000, none, none},
		{"the last minute", day(), 1, 1, 99_999, 100_000, none, 99_999},
		{"the least mark", day(), 1, 1, 0, 50, none, 10},
		{"the least mark, all calm", casts("3:5:0:0"), 1, 2, 0, 100_000, 3, 0},
		{"the greatest mark", casts("0:2:200:200 2:3:0:200 3:5:199:199"), 200, 2, 0, 5, 3, 2},
		{"no forecast", nil, 1, 10_000, 0, 100_000, none, 0},
		{"no forecast, but too few minutes", nil, 1, 10_000, 90_001, 100_000, none, none},
		{"no forecast, just enough", nil, 200, 10_000, 90_000, 100_000, none, 90_000},
		{"the longest window", casts("0:5:9:9 5:10005:0:8"), 9, 10_000, 0, 100_000, 5, 5},
		{"a minute less", casts("0:5:9:9 5:10004:0:8 10004:10006:9:9"), 9, 10_000, 0, 100_000, none, 10_006},
		{"up to the end", casts("90000:100000:0:8"), 9, 10_000, 1, 100_000, 90_000, 1},
		{"casts that touch", casts("0:1:0:8 1:2:3:7 2:3:0:0 4:6:0:8"), 9, 3, 0, 9, 0, 0},
		{"casts with a gap", casts("0:1:0:8 1:2:3:7 3:4:0:0 5:8:0:8"), 9, 3, 0, 9, 5, 0},
	} {
		sure, e := wind.Sure(c.c, c.mark, c.n, c.from, c.to)
		wantWindow(t, c.name+": Sure", sure, e, c.sure)
		maybe, e := wind.Maybe(c.c, c.mark, c.n, c.from, c.to)
		wantWindow(t, c.name+": Maybe", maybe, e, c.maybe)
	}
}

func wantWindow(t *testing.T, what string, got int, e api.Errno, at int) {
	t.Helper()
	want(t, what, got, e, max(at, 0), errorIf(at == none, api.ErrNone))
}

// 8.3: numbers out of their range.
func TestWindowErrors(t *testing.T) {
	check := func(mark, n, from, to int) {
		t.Helper()
		for _, c := range [][]api.Cast{nil, day()} {
			sure, e := wind.Sure(c, mark, n, from, to)
			want(t, "Sure", sure, e, 0, api.ErrRange)
			maybe, e := wind.Maybe(c, mark, n, from, to)
			want(t, "Maybe", maybe, e, 0, api.ErrRange)
		}
	}
	for _, x := range wild {
		if x < 1 || x > 200 {
			check(x, 5, 0, 100)
		}
		if x < 1 || x > 10_000 {
			check(40, x, 0, 100_000)
		}
		if x < 0 || x > 100 {
			check(40, 5, x, 100)
		}
		if x < 50 || x > 100_000 {
			check(40, 5, 50, x)
		}
		if x < 0 || x > 100_000 {
			check(40, 5, x, x)
		}
	}
	check(40, 1, 6, 5)
	check(40, 1, 0, 100_001)
	check(0, 0, -1, -1)
}

// slowWindow asks each minute of each window.
func slowWindow(c []api.Cast, n, from, to int, asked func(x api.Cast, is bool) bool) int {
	ok := func(minute int) bool {
		i := slices.IndexFunc(c, func(x api.Cast) bool { return x.From <= minute && minute < x.To })
		if i < 0 {
			return asked(api.Cast{}, false)
		}
		return asked(c[i], true)
	}
	for t := from; t+n <= to; t++ {
		fits := true
		for m := t; m < t+n; m++ {
			fits = fits && ok(m)
		}
		if fits {
			return t
		}
	}
	return none
}

// 8.3: Sure and Maybe, as the chapter words them.
func TestWindowsAgainstWords(t *testing.T) {
	r := random()
	sures, maybes := 0, 0
	for range 5000 {
		c, mark, n := randomCasts(r, 8), 1+r.IntN(11), 1+r.IntN(8)
		from := r.IntN(20)
		to := from + r.IntN(25)
		slow := slowWindow(c, n, from, to, func(x api.Cast, is bool) bool { return is && x.Hi < mark })
		sure, e := wind.Sure(c, mark, n, from, to)
		wantWindow(t, "Sure", sure, e, slow)
		if slow != none {
			sures++
		}
		slow = slowWindow(c, n, from, to, func(x api.Cast, is bool) bool { return !is || x.Lo < mark })
		maybe, e := wind.Maybe(c, mark, n, from, to)
		wantWindow(t, "Maybe", maybe, e, slow)
		if slow != none {
			maybes++
		}
		if t.Failed() {
			t.Fatalf("of %v, mark %d, %d minutes, from %d to %d", c, mark, n, from, to)
		}
	}
	if sures < 500 || maybes < 1000 || maybes > 4500 {
		t.Errorf("%d of 5000 are sure, %d may be", sures, maybes)
	}
}

// P8.5: a window that is sure may be; in gusts that a forecast has kept, no gust of a sure window is the mark or more.
func TestSureWindows(t *testing.T) {
	r := random()
	sures := 0
	for range 3000 {
		c, mark, n := randomCasts(r, 8), 1+r.IntN(11), 1+r.IntN(8)
		l := randomGusts(r, 60, 9)
		kept, e := wind.Kept(c, l)
		if e != api.OK {
			t.Fatalf("Kept(%v, %v): error %d", c, l, e)
		}
		for _, m := range kept {
			l[m] = -1
		}
		kept, e = wind.Kept(c, l)
		wantList(t, "Kept", kept, e, nil, api.OK)
		sure, e := wind.Sure(c, mark, n, 0, len(l))
		if e != api.OK {
			continue
		}
		sures++
		maybe, e := wind.Maybe(c, mark, n, sure, sure+n)
		want(t, "Maybe", maybe, e, sure, api.OK)
		for m, g := range l[sure : sure+n] {
			if g >= mark {
				t.Fatalf("%v, %v: a gust of %d in the minute %d", c, l, g, sure+m)
			}
		}
	}
	if sures < 300 {
		t.Errorf("%d of 3000 are sure", sures)
	}
}

// 8.3: Merged.
func TestMerged(t *testing.T) {
	for _, c := range []struct{ c, want string }{
		{"", ""},
		{"3:5:0:9", "3:5:0:9"},
		{"3:5:0:9 5:8:0:9", "3:8:0:9"},
		{"3:5:0:9 6:8:0:9", "3:5:0:9 6:8:0:9"},
		{"3:5:0:9 5:8:1:9", "3:5:0:9 5:8:1:9"},
		{"3:5:0:9 5:8:0:8", "3:5:0:9 5:8:0:8"},
		{"0:1:0:9 1:2:0:9 2:3:0:9 3:4:0:8 4:5:0:8 5:6:0:9 7:8:0:9 8:9:0:9", "0:3:0:9 3:5:0:8 5:6:0:9 7:9:0:9"},
		{"0:1:5:5 1:100000:5:5", "0:100000:5:5"},
	} {
		got, e := wind.Merged(casts(c.c))
		wantList(t, "Merged", got, e, casts(c.want), api.OK)
	}
	r := random()
	for range 1000 {
		c := randomCasts(r, 12)
		got, e := wind.Merged(c)
		if e != api.OK || !wind.ValidCasts(got) || !slices.Equal(minuteByMinute(got), minuteByMinute(c)) {
			t.Fatalf("Merged(%v) = %v, error %d", c, got, e)
		}
		for i, x := range got[min(1, len(got)):] {
			if before := got[i]; before.To == x.From && before.Lo == x.Lo && before.Hi == x.Hi {
				t.Fatalf("Merged(%v) = %v", c, got)
			}
		}
	}
}

// minuteByMinute is a cast for each minute of a forecast.
func minuteByMinute(c []api.Cast) []api.Cast {
	var l []api.Cast
	for _, x := range c {
		for m := x.From; m < x.To; m++ {
			l = append(l, api.Cast{From: m, To: m + 1, Lo: x.Lo, Hi: x.Hi})
		}
	}
	return l
}

// 8.3: Kept.
func TestKept(t *testing.T) {
	c := casts("1:3:10:20 3:4:5:5 6:9:0:7")
	for _, x := range []struct {
		l    string
		want []int
	}{
		{"", nil},
		{"200", nil},
		{"200 9", []int{1}},
		{"200 10", nil},
		{"200 20", nil},
		{"200 21", []int{1}},
		{"0 10 20 5 200 0 0 7 3 200 0", nil},
		{"- - - - - - - - - - -", nil},
		{"0 0 0 0 0 0 0 0 0 0 0", []int{1, 2, 3}},
		{"200 200 200 200 200 200 200 200 200 200 200", []int{1, 2, 3, 6, 7, 8}},
		{"0 9 21 4 0 0 8 7 -", []int{1, 2, 3, 6}},
		{"0 - 21 6 0 0 8 8", []int{2, 3, 6, 7}},
	} {
		got, e := wind.Kept(c, gusts(x.l))
		wantList(t, "Kept of "+x.l, got, e, x.want, api.OK)
	}
	got, e := wind.Kept(nil, gusts("0 200 -"))
	wantList(t, "Kept without casts", got, e, nil, api.OK)
	got, e = wind.Kept(casts("1999:100000:0:8 "), append(make([]int, 1_999), 9))
	wantList(t, "Kept in the last minute", got, e, []int{1_999}, api.OK)
	got, e = wind.Kept(casts("2000:100000:0:8"), slices.Repeat([]int{9}, 2_000))
	wantList(t, "Kept behind the last minute", got, e, nil, api.OK)
}
