package tape_test

import (
	"slices"
	"testing"

	"steeplejack/api"
	"steeplejack/tape"
)

const billion = 1_000_000_000

// 5.4: Fits and Broken.
func TestReadings(t *testing.T) {
	low, high := rat(0, 1), rat(billion, 1)
	double := tapes(0, 1, 4, 0, 1, 4, 1, 2, 5)
	for _, c := range []struct {
		name   string
		nodes  int
		l      []api.Tape
		r      []api.Reading
		want   bool
		broken []int // if it is not wanted
	}{
		{"no readings", 3, ring(), nil, true, nil},
		{"no readings of no tapes", 1, nil, []api.Reading{}, true, nil},
		{"the example", 3, ring(), []api.Reading{exactly(0, 1, rat(5, 6))}, true, nil},
		{"the other way", 3, ring(), []api.Reading{exactly(1, 0, rat(5, 6))}, true, nil},
		{"not in lowest terms", 3, ring(), []api.Reading{reading(0, 1, rat(10, 12), rat(500_000_000, 600_000_000))}, true, nil},
		{"just from it on", 3, ring(), []api.Reading{reading(0, 1, rat(5, 6), rat(6, 6))}, true, nil},
		{"just up to it", 3, ring(), []api.Reading{reading(0, 1, rat(4, 6), rat(5, 6))}, true, nil},
		{"a little above it", 3, ring(), []api.Reading{reading(0, 1, rat(833_333_334, billion), rat(1, 1))}, false, []int{1, 2}},
		{"a little below it", 3, ring(), []api.Reading{reading(0, 1, low, rat(833_333_333, billion))}, false, nil},
		{"whatever", 3, ring(), []api.Reading{reading(0, 1, low, high), reading(0, 2, low, high)}, true, nil},
		{"one of two", 3, ring(), []api.Reading{exactly(0, 1, rat(5, 6)), exactly(1, 2, rat(1, 1))}, false, nil},
		{"without the first tape", 3, ring(), []api.Reading{exactly(0, 1, rat(5, 1)), exactly(1, 2, rat(2, 1)), exactly(2, 0, rat(3, 1))}, false, []int{0}},
		{"without any of the tapes", 3, ring(), []api.Reading{exactly(2, 0, rat(3, 1))}, false, []int{0, 1, 2}}, // 3 beside nothing, or 1 + 2
		{"without the last tape", 3, ring(), []api.Reading{exactly(1, 0, rat(1, 1)), exactly(2, 0, rat(3, 1))}, false, []int{1, 2}},
		{"a node and itself", 3, ring(), []api.Reading{exactly(2, 2, low)}, true, nil},
		{"a node and itself, too much", 3, ring(), []api.Reading{reading(2, 2, rat(1, billion), high)}, false, nil},
		{"not joined", 6, twoParts(), []api.Reading{reading(0, 1, low, high)}, false, nil},
		{"joined, then not", 6, twoParts(), []api.Reading{exactly(0, 3, rat(3, 1)), reading(0, 5, low, high)}, false, nil},
		{"one of two side by side", 3, double, []api.Reading{exactly(0, 2, rat(9, 1))}, false, []int{0, 1}},
		{"one of two, and a tape that must stay", 3, double, []api.Reading{exactly(0, 1, rat(4, 1)), exactly(2, 1, rat(5, 1))}, false, []int{0, 1}},
		{"one of two, and no other", 3, double, []api.Reading{exactly(0, 1, rat(4, 1)), exactly(2, 1, rat(6, 1))}, false, nil},
		{"no tapes", 2, nil, []api.Reading{reading(0, 1, low, high)}, false, nil},
		{"the most readings", 3, ring(), slices.Repeat([]api.Reading{exactly(0, 1, rat(5, 6))}, 20), true, nil},
		{"the last of the most", 3, ring(), append(slices.Repeat([]api.Reading{exactly(0, 1, rat(5, 6))}, 19), exactly(0, 1, rat(5, 7))), false, nil},
		{"the greatest numbers", 2, tapes(0, 1, 60), []api.Reading{reading(0, 1, rat(billion, 16_666_667), rat(billion, 16_666_666))}, true, nil},
		{"above the greatest numbers", 2, tapes(0, 1, 60), []api.Reading{reading(0, 1, rat(billion, 16_666_666), high)}, false, nil},
	} {
		ok, e := tape.Fits(c.nodes, c.l, c.r)
		wantBool(t, c.name+": Fits", ok, e, c.want, api.OK)
		e = api.OK
		if c.want {
			e = api.ErrState
		}
		broken, got := tape.Broken(c.nodes, c.l, c.r)
		wantList(t, c.name+": Broken", broken, got, c.broken, e)
	}
}

// 5.4: readings that are not in their range; a net that is not valid comes before them.
func TestReadingErrors(t *testing.T) {
	check := func(x testNet, r []api.Reading, want api.Errno) {
		t.Helper()
		ok, e := tape.Fits(x.nodes, x.tapes, r)
		wantBool(t, "Fits", ok, e, false, want)
		broken, e := tape.Broken(x.nodes, x.tapes, r)
		wantList(t, "Broken", broken, e, nil, want)
	}
	right, unfit := exactly(0, 1, rat(5, 6)), exactly(0, 1, rat(5, 7))
	example := testNet{3, ring()}
	var wrong []api.Reading
	for _, n := range notNodes {
		wrong = append(wrong, exactly(n, 0, rat(1, 1)), exactly(0, n, rat(1, 1)), exactly(n, n, rat(0, 1)))
	}
	for _, x := range []api.Ratio{rat(0, 0), rat(1, 0), rat(1, -1), rat(1, billion+1), rat(-1, 1), rat(-1, -1), rat(billion+1, 1), rat(billion+1, billion), {N: wild[0], D: 1}, {N: 0, D: wild[0]}} {
		wrong = append(wrong, reading(0, 1, x, rat(billion, 1)), reading(0, 1, rat(0, 1), x), exactly(0, 1, x))
	}
	wrong = append(wrong, reading(0, 1, rat(1, 1), rat(0, 1)), reading(0, 1, rat(5, 6), rat(4, 5)), reading(0, 1, rat(billion, billion-1), rat(1, 1)), reading(1, 1, rat(1, billion-1), rat(1, billion)), api.Reading{})
	for _, x := range wrong {
		check(example, []api.Reading{x}, api.ErrRange)
		check(example, []api.Reading{unfit, right, x}, api.ErrRange)
		check(testNet{3, nil}, []api.Reading{x, unfit}, api.ErrRange)
	}
	check(example, slices.Repeat([]api.Reading{right}, 21), api.ErrRange)
	for _, x := range wrongNets() {
		check(x, nil, api.ErrInvalid)
		check(x, wrong[:1], api.ErrInvalid)
		check(x, slices.Repeat([]api.Reading{right}, 21), api.ErrInvalid)
	}
}

// 5.4: readings that are taken without a tape tell of it.
func TestBrokenTapes(t *testing.T) {
	r := random()
	found := 0
	for range 500 {
		x := randomNet(r, 10)
		if len(x.tapes) == 0 {
			continue
		}
		gone := r.IntN(len(x.tapes))
		left := mustWithout(t, x, gone)
		var readings []api.Reading
		for range r.IntN(4) {
			n := x.randomNodes(r, 2)
			if !mustJoined(t, left, n[0], n[1]) {
				continue
			}
			ohms := mustResistance(t, left, n[0], n[1])
			if max(ohms.N, ohms.D) <= billion {
				readings = append(readings, exactly(n[0], n[1], ohms))
			}
		}
		broken, e := tape.Broken(x.nodes, x.tapes, readings)
		if slowFits(t, x, readings) {
			wantList(t, "Broken", broken, e, nil, api.ErrState)
			continue
		}
		found++
		var want []int
		for i := range x.tapes {
			if slowFits(t, mustWithout(t, x, i), readings) {
				want = append(want, i)
			}
		}
		wantList(t, "Broken", broken, e, want, api.OK)
		if !slices.Contains(broken, gone) {
			t.Fatalf("Broken(%v, %v) = %v, but %d is", x, readings, broken, gone)
		}
	}
	if found < 100 {
		t.Errorf("%d nets with broken tapes", found)
	}
}

// slowFits reports whether readings fit a net.
func slowFits(t *testing.T, x testNet, r []api.Reading) bool {
	t.Helper()
	fits := true
	for _, y := range r {
		v := slowVoltages(x, y.A, y.B)[y.A]
		fits = fits && v != nil && toFrac(y.Lo).Cmp(v) <= 0 && v.Cmp(toFrac(y.Hi)) <= 0
	}
	if got, e := tape.Fits(x.nodes, x.tapes, r); got != fits || e != api.OK {
		t.Fatalf("Fits(%v, %v) = %v, error %d", x, r, got, e)
	}
	return fits
}

// 5.4: Weakest.
func TestWeakest(t *testing.T) {
	for _, c := range []struct {
		name  string
		nodes int
		l     []api.Tape
		a, b  int
		want  int
		e     api.Errno
	}{
		{"the example", 3, ring(), 0, 1, 0, api.OK}, // 5, 1 and 1 without each
		{"the example's two ohms", 3, ring(), 1, 2, 1, api.OK},
		{"the example's three ohms", 3, ring(), 2, 0, 0, api.OK}, // 3, 3 and 3
		{"a node and itself", 3, ring(), 2, 2, 0, api.OK},
		{"a node and itself in another part", 6, twoParts(), 5, 5, 0, api.OK},
		{"a bridge counts as greatest", 4, tapes(0, 1, 60, 0, 1, 1, 1, 2, 1, 2, 3, 1), 0, 3, 2, api.OK},
		{"not on the way", 4, tapes(0, 1, 60, 2, 3, 5, 0, 1, 1), 0, 1, 2, api.OK},
		{"one tape", 2, tapes(0, 1, 1), 1, 0, 0, api.OK},
		{"the same side by side", 2, sameTapes(10, 0, 1, 60), 0, 1, 0, api.OK},
		{"the last one", 2, append(sameTapes(9, 0, 1, 60), tapes(0, 1, 59)...), 0, 1, 9, api.OK},
		{"one part", 6, twoParts(), 1, 4, 1, api.OK},
		{"not joined", 6, twoParts(), 0, 1, 0, api.ErrNone},
		{"no tapes", 2, nil, 0, 1, 0, api.ErrNone},
		{"a node and itself, no tapes", 2, nil, 1, 1, 0, api.ErrNone},
		{"a single node", 1, nil, 0, 0, 0, api.ErrNone},
		{"a node that there is not", 2, nil, 0, 2, 0, api.ErrRange},
	} {
		got, e := tape.Weakest(c.nodes, c.l, c.a, c.b)
		wantNumber(t, c.name+": Weakest", got, e, c.want, c.e)
	}
	for _, n := range notNodes {
		got, e := tape.Weakest(3, ring(), n, 0)
		wantNumber(t, "Weakest from no node", got, e, 0, api.ErrRange)
		got, e = tape.Weakest(3, ring(), 0, n)
		wantNumber(t, "Weakest to no node", got, e, 0, api.ErrRange)
	}
	for _, x := range wrongNets() {
		for _, n := range []int{0, 1, -1, 7} {
			got, e := tape.Weakest(x.nodes, x.tapes, 0, n)
			wantNumber(t, "Weakest", got, e, 0, api.ErrInvalid)
		}
	}
}

// 5.4: Weakest of random nets, as the chapter words it.
func TestWeakestAgainstWords(t *testing.T) {
	r := random()
	parted, later := 0, 0
	for range 1000 {
		x := randomNet(r, 10)
		n := x.randomNodes(r, 2)
		if len(x.tapes) == 0 || !mustJoined(t, x, n[0], n[1]) {
			continue
		}
		want, greatest := -1, frac(-1, 1)
		for i := range x.tapes {
			v := slowVoltages(mustWithout(t, x, i), n[0], n[1])[n[0]]
			if v == nil {
				v = frac(billion, 1)
				parted++
			}
			if v.Cmp(greatest) > 0 {
				want, greatest = i, v
			}
		}
		got, e := tape.Weakest(x.nodes, x.tapes, n[0], n[1])
		wantNumber(t, "Weakest", got, e, want, api.OK)
		if want > 0 {
			later++
		}
	}
	if parted < 100 || later < 100 {
		t.Errorf("%d tapes part, %d are not the first", parted, later)
	}
}
