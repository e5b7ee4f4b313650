package wind_test

import (
	"math"
	"math/rand/v2"
	"slices"
	"strconv"
	"strings"
	"testing"

	"steeplejack/api"
	"steeplejack/wind"
)

// example is the rule of the chapter's example.
var example = ruleOf(50, 40, 2)

func ruleOf(stop, below, calm int) api.Rule {
	return api.Rule{Stop: stop, Go: below, Calm: calm}
}

// gusts makes gusts of words.
func gusts(words string) []int {
	var l []int
	for w := range strings.FieldsSeq(words) {
		l = append(l, number(w))
	}
	return l
}

func number(word string) int {
	if word == "-" {
		return -1
	}
	n, err := strconv.Atoi(word)
	if err != nil {
		panic(err)
	}
	return n
}

// span is one of minutes.
func span(from, to int) api.Span { return api.Span{From: from, To: to} }

// casts makes a forecast of words FROM:TO:LO:HI.
func casts(words string) []api.Cast {
	var c []api.Cast
	for w := range strings.FieldsSeq(words) {
		parts := strings.Split(w, ":")
		c = append(c, api.Cast{From: number(parts[0]), To: number(parts[1]), Lo: number(parts[2]), Hi: number(parts[3])})
	}
	return c
}

// wild is numbers at which reckoning without care goes wrong.
var wild = []int{math.MinInt, math.MinInt + 1, -2, -1, 0, 1, 2, 20, 21, 200, 201, 240, 241, 2_000, 10_000, 10_001, 100_000, 100_001, math.MaxInt - 1, math.MaxInt}

// wrongGusts is gusts that are not valid.
func wrongGusts() [][]int {
	wrong := [][]int{make([]int, 2_001), slices.Repeat([]int{-1}, 2_001), make([]int, 1<<16)}
	for _, g := range []int{math.MinInt, -2, 201, math.MaxInt} {
		wrong = append(wrong, []int{g}, []int{0, g}, []int{g, 200}, []int{-1, 0, g, -1}, append(make([]int, 1_999), g))
	}
	return wrong
}

// wrongRules is rules that are not valid.
func wrongRules() []api.Rule {
	wrong := []api.Rule{{}, ruleOf(50, 51, 1), ruleOf(1, 2, 1), ruleOf(200, 201, 1), ruleOf(201, 201, 1)}
	for _, n := range []int{math.MinInt, -1, 0, math.MaxInt} {
		wrong = append(wrong, ruleOf(n, 1, 1), ruleOf(50, n, 1), ruleOf(50, 40, n), ruleOf(n, n, 1))
	}
	return append(wrong, ruleOf(201, 40, 1), ruleOf(50, 40, 241))
}

// wrongCasts is forecasts that are not valid.
func wrongCasts() [][]api.Cast {
	wrong := [][]api.Cast{make([]api.Cast, 1), make([]api.Cast, 1<<16), manyCasts(201), manyCasts(1 << 15)}
	for _, words := range []string{
		"-1:5:0:9", "-2:5:0:9", "5:5:0:9", "6:5:0:9", "0:0:0:9", "0:100001:0:9", "100000:100001:0:9", "100000:100000:0:9", "0:5:-1:9", "0:5:-2:9", "0:5:10:9", "0:5:0:201", "0:5:201:201", "0:5:200:199", "0:5:-1:-1",
		"0:5:0:9 4:8:0:9", "0:5:0:9 0:5:0:9", "5:9:0:9 0:5:0:9", "0:5:0:9 5:8:0:9 7:9:0:9", "5:9:0:9 6:7:0:9", "0:100000:0:9 100000:100001:0:9", "0:100000:0:9 99999:100000:0:9", "0:5:0:9 9:9:0:9 10:11:0:9", "0:5:0:9 5:8:9:8",
		"9223372036854775807:-9223372036854775808:0:9", "-9223372036854775808:9223372036854775807:0:9", "0:5:-9223372036854775808:9", "0:5:0:9223372036854775807", "0:9223372036854775807:0:9", "9223372036854775806:9223372036854775807:0:9",
	} {
		wrong = append(wrong, casts(words))
	}
	return wrong
}

// manyCasts is n casts of a minute each.
func manyCasts(n int) []api.Cast {
	var c []api.Cast
	for i := range n {
		c = append(c, api.Cast{From: i, To: i + 1, Lo: i % 200, Hi: 200})
	}
	return c
}

// random is the same numbers in each run.
func random() *rand.Rand { return rand.New(rand.NewPCG(8, 23)) }

// randomRule is a rule of small numbers.
func randomRule(r *rand.Rand) api.Rule {
	stop := 1 + r.IntN(9)
	return ruleOf(stop, 1+r.IntN(stop), 1+r.IntN(4))
}

// randomGusts is n gusts below 10, of which none in `holes` or so is missing; none is if it is 0.
func randomGusts(r *rand.Rand, n, holes int) []int {
	most := 1 + r.IntN(10)
	l := make([]int, n)
	for i := range l {
		l[i] = r.IntN(most)
		if holes > 0 && r.IntN(holes) == 0 {
			l[i] = -1
		}
	}
	return l
}

// randomCasts is a forecast of at most n casts of some minutes, with gusts of at most 9.
func randomCasts(r *rand.Rand, n int) []api.Cast {
	var c []api.Cast
	at := 0
	for range r.IntN(n + 1) {
		if r.IntN(3) == 0 {
			at += r.IntN(4)
		}
		lo := r.IntN(10)
		x := api.Cast{From: at, To: at + 1 + r.IntN(5), Lo: lo, Hi: lo + r.IntN(10-lo)}
		if k := len(c); k > 0 && r.IntN(3) == 0 {
			x.Lo, x.Hi = c[k-1].Lo, c[k-1].Hi
		}
		at = x.To
		c = append(c, x)
	}
	return c
}

// slowGoes tells of each minute whether work goes in it, stop by stop: a stop lasts until as many minutes as are asked, all behind its first, are calm.
func slowGoes(r api.Rule, l []int) []bool {
	goes := make([]bool, len(l))
	rough := func(g int) bool { return g < 0 || g >= r.Go }
	for m := 0; m < len(l); m++ {
		if 0 <= l[m] && l[m] < r.Stop {
			goes[m] = true
			continue
		}
		end := m + 1 + r.Calm
		for end <= len(l) && slices.ContainsFunc(l[end-r.Calm:end], rough) {
			end++
		}
		m = end - 1
	}
	return goes
}

// slowSpans is the spans of minutes in which something is so or not: those with another minute, or none, on both sides.
func slowSpans(is []bool, so bool) []api.Span {
	var spans []api.Span
	for from := range is {
		if is[from] != so || from > 0 && is[from-1] == so {
			continue
		}
		to := from
		for to < len(is) && is[to] == so {
			to++
		}
		spans = append(spans, span(from, to))
	}
	return spans
}

func howMany(is []bool) int {
	n := 0
	for _, b := range is {
		if b {
			n++
		}
	}
	return n
}

// want checks a result and its error; behind an error the result is its zero value.
func want[T comparable](t *testing.T, what string, got T, e api.Errno, want T, wantE api.Errno) {
	t.Helper()
	if got != want || e != wantE {
		t.Errorf("%s = %v, error %d, want %v, error %d", what, got, e, want, wantE)
	}
}

func wantList[T comparable](t *testing.T, what string, got []T, e api.Errno, want []T, wantE api.Errno) {
	t.Helper()
	if !slices.Equal(got, want) || e != wantE {
		t.Errorf("%s = %v, error %d, want %v, error %d", what, got, e, want, wantE)
	}
}

// The calls below are those whose errors a test does not expect.

func mustStops(t *testing.T, r api.Rule, l []int) []api.Span {
	t.Helper()
	stops, e := wind.Stops(r, l)
	if e != api.OK {
		t.Fatalf("Stops(%v, %v): error %d", r, l, e)
	}
	return stops
}

func mustGoes(t *testing.T, r api.Rule, l []int, minute int) bool {
	t.Helper()
	goes, e := wind.Goes(r, l, minute)
	if e != api.OK {
		t.Fatalf("Goes(%v, %v, %d): error %d", r, l, minute, e)
	}
	return goes
}

func mustMinutes(t *testing.T, r api.Rule, l []int) int {
	t.Helper()
	n, e := wind.Minutes(r, l, 0, len(l))
	if e != api.OK {
		t.Fatalf("Minutes(%v, %v): error %d", r, l, e)
	}
	return n
}

func mustBounds(t *testing.T, r api.Rule, l []int) (least, most int) {
	t.Helper()
	least, most, e := wind.Bounds(r, l)
	if e != api.OK {
		t.Fatalf("Bounds(%v, %v): error %d", r, l, e)
	}
	return least, most
}
