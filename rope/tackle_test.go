package rope_test

import (
	"testing"

	"steeplejack/api"
	"steeplejack/rope"
)

// 4.1: ValidTackle.
func TestValidTackle(t *testing.T) {
	for _, x := range []api.Tackle{tackle(1, 1), tackle(1, 100), tackle(6, 1), tackle(6, 100), tackle(3, 90)} {
		if !rope.ValidTackle(x) {
			t.Errorf("%v is not valid", x)
		}
	}
	for _, x := range wrongTackles() {
		if rope.ValidTackle(x) {
			t.Errorf("%v is valid", x)
		}
	}
}

// 4.1: Gain and Lifted.
func TestLifted(t *testing.T) {
	for _, c := range []struct {
		t            api.Tackle
		gain         api.Ratio
		pull         int
		lifted       api.Ratio
		liftedByMost api.Ratio
	}{
		{tackle(3, 90), rat(271, 100), 369, rat(99_999, 100), rat(2_710_000, 1)},
		{tackle(3, 90), rat(271, 100), 370, rat(10_027, 10), rat(2_710_000, 1)},
		{tackle(1, 1), rat(1, 1), 7, rat(7, 1), rat(1_000_000, 1)},
		{tackle(1, 100), rat(1, 1), 0, rat(0, 1), rat(1_000_000, 1)},
		{tackle(6, 100), rat(6, 1), 7, rat(42, 1), rat(6_000_000, 1)},
		{tackle(2, 50), rat(3, 2), 4, rat(6, 1), rat(1_500_000, 1)},
		{tackle(2, 99), rat(199, 100), 50, rat(199, 2), rat(1_990_000, 1)},
		{tackle(6, 1), rat(10_101_010_101, 10_000_000_000), 1, rat(10_101_010_101, 10_000_000_000), rat(10_101_010_101, 10_000)},
		{tackle(6, 99), rat(58_519_850_599, 10_000_000_000), 2, rat(58_519_850_599, 5_000_000_000), rat(58_519_850_599, 10_000)},
	} {
		got, e := rope.Gain(c.t)
		wantRatio(t, "Gain", got, e, c.gain, api.OK)
		got, e = rope.Lifted(c.t, c.pull)
		wantRatio(t, "Lifted", got, e, c.lifted, api.OK)
		got, e = rope.Lifted(c.t, 1_000_000)
		wantRatio(t, "Lifted by the most", got, e, c.liftedByMost, api.OK)
	}
}

// 4.1: Pull.
func TestPull(t *testing.T) {
	for _, c := range []struct {
		t          api.Tackle
		load, want int
	}{
		{tackle(3, 90), 1000, 370},
		{tackle(3, 90), 0, 0},
		{tackle(3, 90), 1, 1},
		{tackle(3, 90), 2, 1},
		{tackle(3, 90), 3, 2},
		{tackle(3, 90), 271, 100},
		{tackle(3, 90), 272, 101},
		{tackle(3, 90), 1_000_000, 369_004},
		{tackle(1, 50), 1_000_000, 1_000_000},
		{tackle(6, 100), 1_000_000, 166_667},
		{tackle(6, 100), 6, 1},
		{tackle(6, 100), 7, 2},
		{tackle(6, 1), 1_000_000, 990_001},
	} {
		got, e := rope.Pull(c.t, c.load)
		wantNumber(t, "Pull", got, e, c.want, api.OK)
	}
}

// 4.1: Parts.
func TestParts(t *testing.T) {
	for _, c := range []struct {
		keep, load, most, want int
		e                      api.Errno
	}{
		{90, 1000, 1000, 1, api.OK},
		{90, 1000, 999, 2, api.OK},
		{90, 1000, 370, 3, api.OK},
		{90, 1000, 369, 4, api.OK},
		{100, 600, 100, 6, api.OK},
		{100, 601, 100, 0, api.ErrNone},
		{100, 600, 99, 0, api.ErrNone},
		{1, 102, 101, 2, api.OK},
		{1, 103, 101, 0, api.ErrNone},
		{1, 0, 0, 1, api.OK},
		{1, 1, 0, 0, api.ErrNone},
		{100, 1_000_000, 1_000_000, 1, api.OK},
		{100, 1_000_000, 166_667, 6, api.OK},
		{100, 1_000_000, 166_666, 0, api.ErrNone},
		{0, 1, 1, 0, api.ErrRange},
		{-1, 1, 1, 0, api.ErrRange},
		{101, 1, 1, 0, api.ErrRange},
		{101, 2, 0, 0, api.ErrRange},
	} {
		got, e := rope.Parts(c.keep, c.load, c.most)
		wantNumber(t, "Parts", got, e, c.want, c.e)
	}
	for _, n := range notLoads {
		got, e := rope.Parts(90, n, 100)
		wantNumber(t, "Parts of no load", got, e, 0, api.ErrRange)
		got, e = rope.Parts(90, 100, n)
		wantNumber(t, "Parts by no pull", got, e, 0, api.ErrRange)
	}
}

// 4.1: Hauled.
func TestHauled(t *testing.T) {
	for _, c := range []struct {
		t            api.Tackle
		height, want int
		e            api.Errno
	}{
		{tackle(3, 90), 2500, 7500, api.OK},
		{tackle(3, 90), 0, 0, api.OK},
		{tackle(1, 1), 1, 1, api.OK},
		{tackle(6, 50), 200_000, 1_200_000, api.OK},
		{tackle(6, 50), 200_001, 0, api.ErrRange},
		{tackle(6, 50), -1, 0, api.ErrRange},
	} {
		got, e := rope.Hauled(c.t, c.height)
		wantNumber(t, "Hauled", got, e, c.want, c.e)
	}
}

// 4.1: tackles and numbers that are not valid; the tackle comes first.
func TestWrongTackles(t *testing.T) {
	for _, x := range wrongTackles() {
		got, e := rope.Gain(x)
		wantRatio(t, "Gain", got, e, api.Ratio{}, api.ErrInvalid)
		for _, n := range append(notLoads, 100) {
			got, e = rope.Lifted(x, n)
			wantRatio(t, "Lifted", got, e, api.Ratio{}, api.ErrInvalid)
			i, e := rope.Pull(x, n)
			wantNumber(t, "Pull", i, e, 0, api.ErrInvalid)
			i, e = rope.Hauled(x, n)
			wantNumber(t, "Hauled", i, e, 0, api.ErrInvalid)
		}
	}
	for _, n := range notLoads {
		got, e := rope.Lifted(tackle(3, 90), n)
		wantRatio(t, "Lifted", got, e, api.Ratio{}, api.ErrRange)
		i, e := rope.Pull(tackle(3, 90), n)
		wantNumber(t, "Pull", i, e, 0, api.ErrRange)
	}
}

// P4.2 and 4.1: all tackles, against exact fractions.
func TestAllTackles(t *testing.T) {
	r := random()
	for parts := range 6 {
		for keep := range 100 {
			x := tackle(parts+1, keep+1)
			gain, e := rope.Gain(x)
			if e != api.OK || !isRatio(gain, slowGain(x)) {
				t.Fatalf("Gain(%v) = %v, error %d", x, gain, e)
			}
			if keep+1 == 100 && gain != rat(parts+1, 1) {
				t.Errorf("Gain(%v) = %v", x, gain)
			}
			pull := r.IntN(1_000_001)
			lifted, e := rope.Lifted(x, pull)
			want := slowGain(x)
			if e != api.OK || !isRatio(lifted, want.Mul(want, frac(pull, 1))) {
				t.Fatalf("Lifted(%v, %d) = %v, error %d", x, pull, lifted, e)
			}
			for _, load := range []int{0, 1, r.IntN(1000), r.IntN(1_000_001), 1_000_000} {
				checkPull(t, x, load)
			}
		}
	}
}

// checkPull checks that a tackle's pull is the least one.
func checkPull(t *testing.T, x api.Tackle, load int) {
	t.Helper()
	pull, e := rope.Pull(x, load)
	if e != api.OK || !slowLifts(x, pull, load) || pull > 0 && slowLifts(x, pull-1, load) || pull < 0 {
		t.Fatalf("Pull(%v, %d) = %d, error %d", x, load, pull, e)
	}
}

// P4.2: more parts and a greater Keep never lift less.
func TestMoreLiftsMore(t *testing.T) {
	for parts := range 6 {
		for keep := range 100 {
			gain := fineGain(t, tackle(parts+1, keep+1))
			if parts > 0 && gain <= fineGain(t, tackle(parts, keep+1)) {
				t.Errorf("a part more than %d does not lift more", parts)
			}
			if keep > 0 && gain < fineGain(t, tackle(parts+1, keep)) {
				t.Errorf("a greater Keep than %d lifts less", keep)
			}
		}
	}
}

// fineGain is a tackle's gain in parts of 10^10, of which each gain is a whole number.
func fineGain(t *testing.T, x api.Tackle) int {
	t.Helper()
	gain, e := rope.Gain(x)
	if e != api.OK || 10_000_000_000%gain.D != 0 {
		t.Fatalf("Gain(%v) = %v, error %d", x, gain, e)
	}
	return 10_000_000_000 / gain.D * gain.N
}

// 4.1: Parts is the least number with which Pull is small enough.
func TestPartsAgainstPull(t *testing.T) {
	r := random()
	none, some := 0, 0
	for range 3000 {
		keep, load := 1+r.IntN(100), r.IntN([]int{20, 1_000_001}[r.IntN(2)])
		most := r.IntN(load + 2)
		want, wantE := 0, api.ErrNone
		for parts := 6; parts > 0; parts-- {
			if slowLifts(tackle(parts, keep), most, load) {
				want, wantE = parts, api.OK
			}
		}
		got, e := rope.Parts(keep, load, most)
		wantNumber(t, "Parts", got, e, want, wantE)
		if wantE == api.OK {
			some++
		} else {
			none++
		}
	}
	if none < 500 || some < 500 {
		t.Errorf("%d tackles lift, %d do not", some, none)
	}
}
