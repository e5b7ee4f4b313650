package wind_test

import (
	"slices"
	"testing"

	"steeplejack/api"
	"steeplejack/wind"
)

// 8.2: Bounds.
func TestBounds(t *testing.T) {
	for _, c := range []struct {
		name        string
		r           api.Rule
		l           string
		least, most int
	}{
		{"no minutes", example, "", 0, 0},
		{"all readings", example, "30 55 45 35 35 30", 2, 2},
		{"all readings, no stop", example, "30 49 40", 3, 3},
		{"one missing alone", example, "-", 0, 1},
		{"all missing", example, "- - - - -", 0, 5},
		{"the example", example, "30 55 - 35 35 30", 2, 3},
		{"the last calm minute", example, "30 55 35 - 30 30", 1, 3},
		{"behind a stop nothing is won", example, "30 55 -", 1, 1},
		{"between gusts that stop work", example, "55 - - 55", 0, 0},
		{"the stop of a missing minute may end", example, "0 - 0 0 0 0", 3, 6},
		{"a missing minute that stops work may be the least", example, "0 0 - 0 0 0", 3, 6},
		{"the best differs from minute to minute", example, "0 - 0 0 55 - 0 0 0", 2, 6},
		{"Go is Stop", ruleOf(50, 50, 1), "- 0 0", 1, 3},
		{"gusts of 200 stop work", ruleOf(200, 200, 1), "- 0 0", 1, 3},
		{"gusts of 0 are calm", ruleOf(1, 1, 1), "1 - 0", 0, 1},
		{"rough, but no stop", ruleOf(50, 1, 2), "50 0 - 0 0 49", 1, 3},
		{"a stop is worse than a rough minute", ruleOf(50, 40, 3), "50 0 0 0 - 0 0 0 0", 1, 5},
	} {
		least, most, e := wind.Bounds(c.r, gusts(c.l))
		want(t, c.name, [2]int{least, most}, e, [2]int{c.least, c.most}, api.OK)
	}
	missing := slices.Repeat([]int{-1}, 2_000)
	for _, rule := range []api.Rule{example, ruleOf(200, 200, 240), ruleOf(1, 1, 1)} {
		least, most, e := wind.Bounds(rule, missing)
		want(t, "the most missing", [2]int{least, most}, e, [2]int{0, 2_000}, api.OK)
	}
}

// filled calls with all gusts in which each missing minute has one of some.
func filled(l, of []int, call func(l []int)) {
	at := slices.Index(l, -1)
	if at < 0 {
		call(l)
		return
	}
	for _, g := range of {
		l = slices.Clone(l)
		l[at] = g
		filled(l, of, call)
	}
}

// P8.4: the minutes of work of all gusts for the missing minutes lie within Bounds, and both ends are among them.
func TestBoundsOfAll(t *testing.T) {
	r := random()
	wide := 0
	for i := range 1000 {
		rule := randomRule(r)
		l := randomGusts(r, 1+r.IntN(14), 0)
		of := []int{0, rule.Go - 1, rule.Go, rule.Stop - 1, rule.Stop, 200}
		holes := r.IntN(5)
		if i%100 == 0 {
			of, holes = nil, 2
			for g := range 201 {
				of = append(of, g)
			}
		}
		for range holes {
			l[r.IntN(len(l))] = -1
		}
		slowLeast, slowMost := len(l), 0
		filled(l, of, func(l []int) {
			n := howMany(slowGoes(rule, l))
			slowLeast, slowMost = min(slowLeast, n), max(slowMost, n)
		})
		least, most := mustBounds(t, rule, l)
		if least != slowLeast || most != slowMost {
			t.Fatalf("Bounds(%v, %v) = %d, %d, want %d, %d", rule, l, least, most, slowLeast, slowMost)
		}
		if least < most {
			wide++
		}
	}
	if wide < 200 {
		t.Errorf("%d of 1000 bounds differ", wide)
	}
}

// P8.4: of long lists, random gusts lie within Bounds, and Minutes of no missing minutes is both.
func TestBoundsOfSome(t *testing.T) {
	r := random()
	for range 50 {
		rule := ruleOf(2+r.IntN(8), 1+r.IntN(2), 1+r.IntN(240))
		l := randomGusts(r, 1_000, 1+r.IntN(100))
		least, most := mustBounds(t, rule, l)
		for range 10 {
			full := slices.Clone(l)
			for m, g := range full {
				if g < 0 {
					full[m] = r.IntN(11)
				}
			}
			n := mustMinutes(t, rule, full)
			if n < least || n > most {
				t.Fatalf("Bounds(%v, %v) = %d, %d, with other gusts %d", rule, l, least, most, n)
			}
			if lo, hi := mustBounds(t, rule, full); lo != n || hi != n {
				t.Fatalf("Bounds(%v, %v) = %d, %d, want %d", rule, full, lo, hi, n)
			}
		}
	}
}
