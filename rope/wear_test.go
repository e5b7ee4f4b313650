package rope_test

import (
	"slices"
	"testing"

	"steeplejack/api"
	"steeplejack/rope"
)

// 4.3: ValidRope and ValidUses.
func TestValidWear(t *testing.T) {
	for _, r := range []api.Rope{
		example(),
		{Strength: 1, Daily: 0, Least: 1},
		{Strength: 1_000_000, Daily: 1000, Least: 1000},
	} {
		if !rope.ValidRope(r) {
			t.Errorf("%v is not valid", r)
		}
	}
	for _, r := range wrongRopes() {
		if rope.ValidRope(r) {
			t.Errorf("%v is valid", r)
		}
	}
	for _, u := range [][]api.Use{nil, {}, exampleUses(), uses(0, 0), uses(100_000, 1_000_000), uses(0, 5, 0, 4, 7, 3, 7, 3), sameUses(500, 3, 1)} {
		if !rope.ValidUses(u) {
			t.Errorf("%v are not valid", u)
		}
	}
	for _, u := range wrongUses() {
		if rope.ValidUses(u) {
			t.Errorf("%v are valid", u)
		}
	}
}

// wearCases are ropes with what is to be said about them on a day.
var wearCases = []struct {
	name            string
	r               api.Rope
	u               []api.Use
	day, left, safe int
	e               api.Errno // of Safe
}{
	{"new", example(), nil, 0, 1000, 2000, api.OK},
	{"used on the first day", example(), exampleUses(), 0, 990, 1980, api.OK},
	{"the day before the next uses", example(), exampleUses(), 9, 981, 1962, api.OK},
	{"two uses on a day", example(), exampleUses(), 10, 955, 1910, api.OK},
	{"the day before the last use", example(), exampleUses(), 29, 936, 1872, api.OK},
	{"a use rounded up", example(), exampleUses(), 30, 934, 1868, api.OK},
	{"just enough left", example(), exampleUses(), 464, 500, 1000, api.OK},
	{"just not enough left", example(), exampleUses(), 465, 499, 0, api.ErrState},
	{"nothing left", example(), exampleUses(), 964, 0, 0, api.ErrState},
	{"no less than nothing", example(), exampleUses(), 965, 0, 0, api.ErrState},
	{"the last day", example(), exampleUses(), 100_000, 0, 0, api.ErrState},
	{"each use rounded up by itself", api.Rope{Strength: 1000, Least: 1}, uses(0, 11, 0, 11, 1, 11), 0, 996, 199, api.OK},
	{"a use without rounding", api.Rope{Strength: 1000, Least: 1}, uses(0, 10, 0, 20), 0, 997, 199, api.OK},
	{"a load of 0 takes nothing", api.Rope{Strength: 1, Least: 1000}, sameUses(500, 0, 0), 0, 1000, 0, api.OK},
	{"one newton takes a thousandth", api.Rope{Strength: 1_000_000, Least: 999}, uses(7, 1), 7, 999, 199_800, api.OK},
	{"the strongest", api.Rope{Strength: 1_000_000, Least: 1000}, nil, 100_000, 1000, 200_000, api.OK},
	{"its strength once", api.Rope{Strength: 1_000_000, Least: 900}, uses(0, 1_000_000), 3, 900, 180_000, api.OK},
	{"the greatest wear", api.Rope{Strength: 1, Daily: 1000, Least: 1}, sameUses(500, 100_000, 1_000_000), 100_000, 0, 0, api.ErrState},
	{"a day takes all", api.Rope{Strength: 1, Daily: 1000, Least: 1}, nil, 1, 0, 0, api.ErrState},
	{"one thousandth left", api.Rope{Strength: 1_000_000, Daily: 999, Least: 1}, nil, 1, 1, 200, api.OK},
	{"a fifth rounded down", api.Rope{Strength: 9, Least: 1}, nil, 0, 1000, 1, api.OK},
	{"a fifth", api.Rope{Strength: 10, Least: 1}, nil, 0, 1000, 2, api.OK},
	{"less than a newton", api.Rope{Strength: 4, Least: 1}, nil, 0, 1000, 0, api.OK},
}

// 4.3: Left, Safe and May.
func TestWear(t *testing.T) {
	for _, c := range wearCases {
		got, e := rope.Left(c.r, c.u, c.day)
		wantNumber(t, c.name+": Left", got, e, c.left, api.OK)
		got, e = rope.Safe(c.r, c.u, c.day)
		wantNumber(t, c.name+": Safe", got, e, c.safe, c.e)
		if mustMay(t, c.r, c.u, c.day, c.safe) != (c.e == api.OK) {
			t.Errorf("%s: May %d", c.name, c.safe)
		}
		if mustMay(t, c.r, c.u, c.day, c.safe+1) || mustMay(t, c.r, c.u, c.day, 1_000_000) {
			t.Errorf("%s: May more than %d", c.name, c.safe)
		}
	}
}

// 4.3: Retires.
func TestRetires(t *testing.T) {
	for _, c := range []struct {
		name string
		r    api.Rope
		u    []api.Use
		want int
		e    api.Errno
	}{
		{"by age and uses", example(), exampleUses(), 465, api.OK},
		{"by age", example(), nil, 501, api.OK},
		{"by a use", example(), uses(10, 48_000, 20, 100), 20, api.OK},
		{"by the second use of a day", example(), uses(10, 1000, 20, 10_000, 20, 40_000), 20, api.OK},
		{"by a use on the first day", api.Rope{Strength: 1000, Least: 1000}, uses(0, 1), 0, api.OK},
		{"by a use on the last day", api.Rope{Strength: 1000, Least: 1000}, uses(100_000, 1), 100_000, api.OK},
		{"by age on the second day", api.Rope{Strength: 1000, Daily: 1000, Least: 1}, nil, 1, api.OK},
		{"not without wear", api.Rope{Strength: 1000, Least: 1000}, nil, 0, api.ErrNone},
		{"not by loads of 0", api.Rope{Strength: 1, Least: 1000}, uses(0, 0, 100_000, 0), 0, api.ErrNone},
		{"not while enough is left", api.Rope{Strength: 1000, Least: 900}, uses(0, 990, 100_000, 10), 0, api.ErrNone},
		{"a thousandth less", api.Rope{Strength: 1000, Least: 900}, uses(0, 991, 100_000, 10), 100_000, api.OK},
	} {
		got, e := rope.Retires(c.r, c.u)
		wantNumber(t, c.name+": Retires", got, e, c.want, c.e)
	}
}

// 4.3: Used.
func TestUsed(t *testing.T) {
	full := sameUses(500, 7, 0)
	spent := sameUses(500, 7, 1_000_000)
	for _, c := range []struct {
		name      string
		u         []api.Use
		day, load int
		want      []api.Use
		e         api.Errno
	}{
		{"the first", nil, 0, 2000, uses(0, 2000), api.OK},
		{"too much for the first", nil, 0, 2001, nil, api.ErrNone},
		{"one more", exampleUses(), 40, 5, uses(0, 1000, 10, 500, 10, 2000, 30, 1, 40, 5), api.OK},
		{"one more on the day", exampleUses(), 30, 5, uses(0, 1000, 10, 500, 10, 2000, 30, 1, 30, 5), api.OK},
		{"asked before this use", uses(0, 1000), 0, 1980, uses(0, 1000, 0, 1980), api.OK},
		{"too much after the uses of the day", uses(0, 1000), 0, 1981, nil, api.ErrNone},
		{"on the last day that the rope may bear", exampleUses(), 464, 1000, append(exampleUses(), api.Use{Day: 464, Load: 1000}), api.OK},
		{"too old even for no load", exampleUses(), 465, 0, nil, api.ErrNone},
		{"before the last use", exampleUses(), 29, 5, nil, api.ErrState},
		{"too much before the last use", exampleUses(), 29, 1_000_000, nil, api.ErrState},
		{"the last one that there may be", full[:499], 7, 5, append(slices.Clone(full[:499]), api.Use{Day: 7, Load: 5}), api.OK},
		{"too many", full, 7, 5, nil, api.ErrLimit},
		{"too many, and before the last one", full, 6, 5, nil, api.ErrState},
		{"too many, and more than the rope may bear", spent, 7, 5, nil, api.ErrLimit},
		{"no day", exampleUses(), 100_001, 5, nil, api.ErrRange},
		{"no day, before the last use", exampleUses(), -1, 5, nil, api.ErrRange},
		{"no load", exampleUses(), 30, -1, nil, api.ErrRange},
		{"no load, before the last use", exampleUses(), 29, 1_000_001, nil, api.ErrRange},
	} {
		got, e := rope.Used(example(), c.u, c.day, c.load)
		if !slices.Equal(got, c.want) || e != c.e {
			t.Errorf("%s: Used = %v, error %d, want %v, error %d", c.name, got, e, c.want, c.e)
		}
	}
}

// 4.3: Wrong.
func TestWrong(t *testing.T) {
	for _, c := range []struct {
		name string
		r    api.Rope
		u    []api.Use
		want []int
	}{
		{"none", example(), nil, nil},
		{"the third", example(), exampleUses(), []int{2}},
		{"just not too much", example(), uses(0, 2000, 0, 1960, 1, 1918), nil},
		{"just too much", example(), uses(0, 2001, 0, 1958, 1, 1917), []int{0, 2}},
		{"a later one of the day does not count", example(), uses(3, 1994, 3, 1_000_000), []int{1}},
		{"all after one that was too much", example(), uses(3, 1_000_000, 3, 0, 4, 1), []int{0, 1, 2}},
		{"too old", example(), uses(500, 1000, 500, 0, 501, 0), []int{1, 2}},
		{"no load on an old rope", example(), uses(501, 0), []int{0}},
		{"loads of 0", api.Rope{Strength: 1, Least: 1000}, sameUses(500, 100_000, 0), nil},
		{"each of the most", api.Rope{Strength: 4, Least: 1}, sameUses(500, 0, 1), upTo(500)},
	} {
		got, e := rope.Wrong(c.r, c.u)
		if !slices.Equal(got, c.want) || e != api.OK {
			t.Errorf("%s: Wrong = %v, error %d, want %v", c.name, got, e, c.want)
		}
	}
}

// 4.3: Weakest.
func TestWeakest(t *testing.T) {
	strong, weak, old := example(), api.Rope{Strength: 9000, Least: 1}, api.Rope{Strength: 1_000_000, Daily: 100, Least: 500}
	none := []api.Use{}
	for _, c := range []struct {
		name string
		r    []api.Rope
		u    [][]api.Use
		day  int
		want int
		e    api.Errno
	}{
		{"one", []api.Rope{strong}, [][]api.Use{nil}, 0, 0, api.OK},
		{"the second", []api.Rope{strong, weak, old}, [][]api.Use{none, none, none}, 0, 1, api.OK},
		{"the first of two", []api.Rope{strong, weak, weak}, [][]api.Use{none, none, none}, 0, 1, api.OK},
		{"the first", []api.Rope{strong, weak}, [][]api.Use{none, none}, 101, 0, api.OK},
		{"as much as the other", []api.Rope{strong, weak}, [][]api.Use{none, none}, 100, 0, api.OK},
		{"by its uses", []api.Rope{strong, weak}, [][]api.Use{uses(0, 10_001), none}, 0, 0, api.OK},
		{"by the uses up to the day", []api.Rope{strong, weak}, [][]api.Use{uses(1, 50_000), none}, 0, 1, api.OK},
		{"too old", []api.Rope{strong, weak, old}, [][]api.Use{none, none, none}, 6, 2, api.OK},
		{"just not too old", []api.Rope{strong, weak, old}, [][]api.Use{none, none, none}, 5, 1, api.OK},
		{"too old counts as 0", []api.Rope{old, {Strength: 4, Least: 1}, old}, [][]api.Use{none, none, none}, 6, 0, api.OK},
		{"0 counts as too old", []api.Rope{{Strength: 4, Least: 1}, old}, [][]api.Use{none, none}, 6, 0, api.OK},
		{"the last of the most", append(slices.Repeat([]api.Rope{strong}, 19), weak), make([][]api.Use, 20), 0, 19, api.OK},
		{"no ropes", nil, nil, 0, 0, api.ErrSize},
		{"no ropes, but uses", nil, [][]api.Use{none}, 0, 0, api.ErrSize},
		{"too many ropes", slices.Repeat([]api.Rope{strong}, 21), make([][]api.Use, 21), 0, 0, api.ErrSize},
		{"too few lists of uses", []api.Rope{strong, weak}, [][]api.Use{none}, 0, 0, api.ErrSize},
		{"too many lists of uses", []api.Rope{strong, weak}, [][]api.Use{none, none, none}, 0, 0, api.ErrSize},
		{"too few for wrong ropes on no day", []api.Rope{{}, weak}, [][]api.Use{none}, -1, 0, api.ErrSize},
		{"a wrong rope", []api.Rope{strong, {}}, [][]api.Use{none, none}, 0, 0, api.ErrInvalid},
		{"wrong uses", []api.Rope{strong, weak}, [][]api.Use{none, uses(-1, 0)}, 0, 0, api.ErrInvalid},
		{"a wrong rope on no day", []api.Rope{strong, {}}, [][]api.Use{none, none}, -1, 0, api.ErrInvalid},
		{"wrong uses on no day", []api.Rope{strong, weak}, [][]api.Use{none, uses(-1, 0)}, 100_001, 0, api.ErrInvalid},
		{"before the first day", []api.Rope{strong, weak}, [][]api.Use{none, none}, -1, 0, api.ErrRange},
		{"after the last day", []api.Rope{strong, weak}, [][]api.Use{none, none}, 100_001, 0, api.ErrRange},
		{"the last day", []api.Rope{weak, strong}, [][]api.Use{none, none}, 100_000, 1, api.OK},
	} {
		got, e := rope.Weakest(c.r, c.u, c.day)
		wantNumber(t, c.name+": Weakest", got, e, c.want, c.e)
	}
}

// 4.3: ropes, uses and numbers that are not valid; ropes and uses come before numbers.
func TestWrongWear(t *testing.T) {
	for _, r := range wrongRopes() {
		checkWear(t, r, exampleUses(), 30, 5, api.ErrInvalid)
		checkWear(t, r, nil, -1, -1, api.ErrInvalid)
		checkWhole(t, r, nil)
	}
	for _, u := range wrongUses() {
		checkWear(t, example(), u, 5, 5, api.ErrInvalid)
		checkWear(t, example(), u, 100_001, 1_000_001, api.ErrInvalid)
		checkWhole(t, example(), u)
	}
	for _, n := range notDays {
		checkWear(t, example(), exampleUses(), n, 5, api.ErrRange)
	}
	for _, n := range notLoads {
		ok, e := rope.May(example(), exampleUses(), 30, n)
		if ok || e != api.ErrRange {
			t.Errorf("May bear no load: %v, error %d", ok, e)
		}
	}
}

// checkWear checks the error of the calls that take a day.
func checkWear(t *testing.T, r api.Rope, u []api.Use, day, load int, want api.Errno) {
	t.Helper()
	n, e := rope.Left(r, u, day)
	wantNumber(t, "Left", n, e, 0, want)
	n, e = rope.Safe(r, u, day)
	wantNumber(t, "Safe", n, e, 0, want)
	ok, e := rope.May(r, u, day, load)
	if ok || e != want {
		t.Errorf("May = %v, error %d, want error %d", ok, e, want)
	}
	l, e := rope.Used(r, u, day, load)
	if len(l) > 0 || e != want {
		t.Errorf("Used = %v, error %d, want error %d", l, e, want)
	}
}

// checkWhole checks that the calls that take no day say that a rope or its uses are not valid.
func checkWhole(t *testing.T, r api.Rope, u []api.Use) {
	t.Helper()
	n, e := rope.Retires(r, u)
	wantNumber(t, "Retires", n, e, 0, api.ErrInvalid)
	l, e := rope.Wrong(r, u)
	if len(l) > 0 || e != api.ErrInvalid {
		t.Errorf("Wrong = %v, error %d", l, e)
	}
}

// P4.4: what is left never grows from day to day, nor by a further use; a rope that may bear a load may bear lesser ones.
func TestNeverGrows(t *testing.T) {
	r := random()
	bear := 0
	for range 300 {
		x := randomRope(r)
		u := randomUses(r, r.IntN(30), x.Strength/3)
		before := 1000
		for day := range 60 {
			left := mustLeft(t, x, u, day)
			if left > before || left < 0 {
				t.Fatalf("%v, %v: %d are left on the day %d, %d before", x, u, left, day, before)
			}
			if len(u) > 0 && left > mustLeft(t, x, u[:len(u)-1], day) {
				t.Fatalf("%v, %v: more is left by the last use", x, u)
			}
			before = left
			load := r.IntN(x.Strength + 1)
			if mustMay(t, x, u, day, load) {
				bear++
				if !mustMay(t, x, u, day, load/2) || !mustMay(t, x, u, day, 0) || load > 0 && !mustMay(t, x, u, day, load-1) {
					t.Fatalf("%v, %v: may bear %d on the day %d, but not less", x, u, load, day)
				}
			}
		}
	}
	if bear < 500 {
		t.Errorf("only %d loads may be borne", bear)
	}
}

// P4.4 and 4.3: Left, May, Safe, Retires and Wrong of random ropes, as the chapter words them.
func TestWearAgainstWords(t *testing.T) {
	r := random()
	wrong, right, retired := 0, 0, 0
	for range 500 {
		x := randomRope(r)
		u := randomUses(r, r.IntN(20), x.Strength/4)
		day := r.IntN(80)
		if left := mustLeft(t, x, u, day); left != slowLeft(x, u, day) {
			t.Fatalf("Left(%v, %v, %d) = %d", x, u, day, left)
		}
		load := r.IntN(x.Strength/4 + 1)
		if mustMay(t, x, u, day, load) != slowMay(x, u, day, load) {
			t.Fatalf("May(%v, %v, %d, %d)", x, u, day, load)
		}
		safe, e := rope.Safe(x, u, day)
		if (e == api.OK) != slowMay(x, u, day, 0) || e == api.OK && (!slowMay(x, u, day, safe) || slowMay(x, u, day, safe+1)) {
			t.Fatalf("Safe(%v, %v, %d) = %d, error %d", x, u, day, safe, e)
		}
		if checkRetires(t, x, u) {
			retired++
		}
		var want []int
		for i, y := range u {
			if !slowMay(x, u[:i], y.Day, y.Load) {
				want = append(want, i)
			}
		}
		got, e := rope.Wrong(x, u)
		if e != api.OK || !slices.Equal(got, want) {
			t.Fatalf("Wrong(%v, %v) = %v, error %d, want %v", x, u, got, e, want)
		}
		wrong += len(want)
		right += len(u) - len(want)
	}
	if wrong < 500 || right < 500 || retired < 100 || retired > 450 {
		t.Errorf("%d uses are wrong, %d right; %d of 500 ropes retire", wrong, right, retired)
	}
}

// checkRetires compares Retires with all days, and reports whether a rope retires.
func checkRetires(t *testing.T, r api.Rope, u []api.Use) bool {
	t.Helper()
	const lastUse = 100 // no random use is later
	got, e := rope.Retires(r, u)
	for day := range lastUse {
		if slowLeft(r, u, day) < r.Least {
			wantNumber(t, "Retires", got, e, day, api.OK)
			return true
		}
	}
	if slowLeft(r, u, api.MaxDay) >= r.Least {
		wantNumber(t, "Retires", got, e, 0, api.ErrNone)
		return false
	}
	if e != api.OK || got < lastUse || slowLeft(r, u, got) >= r.Least || slowLeft(r, u, got-1) < r.Least {
		t.Errorf("Retires(%v, %v) = %d, error %d", r, u, got, e)
	}
	return true
}

// P4.5: uses that are added one by one have none that is wrong.
func TestUsedIsNeverWrong(t *testing.T) {
	r := random()
	added, refused := 0, 0
	for range 200 {
		x := randomRope(r)
		var u []api.Use
		for _, y := range randomUses(r, 40, x.Strength/4) {
			next, e := rope.Used(x, u, y.Day, y.Load)
			if (e == api.OK) != slowMay(x, u, y.Day, y.Load) || e != api.OK && e != api.ErrNone {
				t.Fatalf("Used(%v, %v, %v): error %d", x, u, y, e)
			}
			if e != api.OK {
				refused++
				continue
			}
			if !slices.Equal(next, append(slices.Clone(u), y)) {
				t.Fatalf("Used(%v, %v, %v) = %v", x, u, y, next)
			}
			u = next
			added++
		}
		if wrong, e := rope.Wrong(x, u); e != api.OK || len(wrong) > 0 {
			t.Fatalf("Wrong(%v, %v) = %v, error %d", x, u, wrong, e)
		}
	}
	if added < 500 || refused < 500 {
		t.Errorf("%d uses are added, %d refused", added, refused)
	}
}

// upTo is the list of the numbers below n.
func upTo(n int) []int {
	var l []int
	for i := range n {
		l = append(l, i)
	}
	return l
}
