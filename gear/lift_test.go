package gear_test

import (
	"math/rand/v2"
	"slices"
	"testing"

	"steeplejack/api"
	"steeplejack/gear"
)

// 7.2: Weak and May.
func TestWeak(t *testing.T) {
	hundred := append(slices.Repeat([]string{"none"}, 99), "hemp2")
	for _, c := range []struct {
		name  string
		r     []api.Link
		back  []string
		day   int
		loads []int
		want  []int
	}{
		{"just what they may", example(), nil, 0, []int{3_000, 7_000}, nil},
		{"one sling too much", example(), nil, 0, []int{3_001, 6_999}, []int{1}},
		{"the other sling too much", example(), nil, 0, []int{1_000, 8_001}, []int{2}},
		{"the beam too much", example(), nil, 0, []int{3_000, 7_001}, []int{0}},
		{"all too much", example(), nil, 0, []int{3_001, 8_001}, []int{0, 1, 2}},
		{"nothing", example(), nil, 0, []int{0, 0}, nil},
		{"on the last day", example(), nil, 50, []int{0, 1}, nil},
		{"a day later", example(), nil, 51, []int{0, 1}, []int{2}},
		{"a day later, nothing", example(), nil, 51, []int{0, 0}, []int{2}},
		{"both slings out of date", example(), nil, 61, []int{0, 0}, []int{1, 2}},
		{"all out of date", example(), nil, 91, []int{0, 0}, []int{0, 1, 2}},
		{"the last of all days", example(), nil, 100_000, []int{0, 0}, []int{0, 1, 2}},
		{"the beam is called back", example(), []string{"steel"}, 0, []int{0, 0}, []int{0}},
		{"a sling is called back", example(), []string{"none", "hemp1"}, 0, []int{9, 9}, []int{1}},
		{"others are called back", example(), []string{"old", "hemp", "hemp3", "hemp1 ", "beam", "sling_a"}, 0, []int{9, 9}, nil},
		{"all are called back", example(), []string{"hemp2", "hemp1", "steel", "steel"}, 0, []int{0, 0}, []int{0, 1, 2}},
		{"what are no names", example(), notNames, 0, []int{9, 9}, nil},
		{"the most batches", example(), hundred, 0, []int{9, 9}, []int{2}},
		{"one of each", example(), []string{"steel"}, 51, []int{3_001, 0}, []int{0, 1, 2}},
		{"all of them at one", example(), []string{"hemp2"}, 51, []int{0, 8_001}, []int{2}},
		{"one link", links("hook:-1"), nil, 40, []int{500}, nil},
		{"one link too much", links("hook:-1"), nil, 40, []int{501}, []int{0}},
		{"one between", deep(), nil, 0, []int{500, 2_000, 6_500}, nil},
		{"more for one between", links("spare:-1 shackle:0 sling_a:1 sling_b:1"), nil, 0, []int{1_000, 1_001}, []int{1}},
		{"more for the topmost", links("spare:-1 beam:0 sling_a:1 sling_b:1"), nil, 0, []int{2_000, 7_001}, []int{0}},
	} {
		weak, e := gear.Weak(store(), c.r, c.back, c.day, c.loads)
		wantList(t, c.name+": Weak", weak, e, c.want, api.OK)
		may, e := gear.May(store(), c.r, c.back, c.day, c.loads)
		want(t, c.name+": May", may, e, len(c.want) == 0, api.OK)
	}
}

// 7.2: errors of Weak and May, in their order.
func TestWeakErrors(t *testing.T) {
	check := func(back []string, day int, loads []int, wantE api.Errno) {
		t.Helper()
		weak, e := gear.Weak(store(), example(), back, day, loads)
		wantList(t, "Weak", weak, e, nil, wantE)
		may, e := gear.May(store(), example(), back, day, loads)
		want(t, "May", may, e, false, wantE)
	}
	check(make([]string, 101), 0, []int{1, 1}, api.ErrLimit)
	check(slices.Repeat([]string{"none"}, 101), 0, []int{1}, api.ErrLimit)
	check(make([]string, 1<<16), -1, []int{1}, api.ErrLimit)
	check(make([]string, 101), -1, []int{-1, -1}, api.ErrLimit)
	for _, loads := range [][]int{nil, {1}, {1, 1, 1}, {-1, 1, 1}} {
		check(nil, 0, loads, api.ErrSize)
		check(make([]string, 100), -1, loads, api.ErrSize)
		check([]string{"hemp1"}, 100_001, loads, api.ErrSize)
	}
	for _, day := range notDays {
		check(nil, day, []int{1, 1}, api.ErrRange)
		check([]string{"hemp1"}, day, []int{1, -1}, api.ErrRange)
	}
	for _, n := range notLoads {
		check(nil, 99, []int{n, 1}, api.ErrRange)
		check([]string{"hemp1"}, 99, []int{1, n}, api.ErrRange)
	}
}

// slowWeak is the links that are weak, as the chapter words it.
func slowWeak(g []api.Item, r []api.Link, back []string, day int, loads []int) []int {
	var weak []int
	for i, n := range slowBorne(r, loads) {
		x := itemOf(g, r[i])
		good := x.Due >= day && !slices.Contains(back, x.Batch)
		if !good || n > x.Load {
			weak = append(weak, i)
		}
	}
	return weak
}

// lift is a rig that is asked whether it may lift loads.
type lift struct {
	g     []api.Item
	r     []api.Link
	back  []string
	day   int
	loads []int
}

func (l lift) may(t *testing.T) bool {
	t.Helper()
	return mustMay(t, l.g, l.r, l.back, l.day, l.loads)
}

// randomLift is a lift that may or may not be.
func randomLift(r *rand.Rand) lift {
	l := lift{g: randomGear(r, 1+r.IntN(8), 99), day: 47 + r.IntN(10)}
	l.r = randomRig(r, l.g, len(l.g))
	for range r.IntN(3) {
		l.back = append(l.back, randomBatch(r))
	}
	l.loads = randomLoads(r, len(slowEnds(l.r)), []int{5, 15, 50}[r.IntN(3)])
	return l
}

// 7.2: Weak and May, as the chapter words them.
func TestWeakAgainstWords(t *testing.T) {
	r := random()
	lifted := 0
	for range 3000 {
		l := randomLift(r)
		slow := slowWeak(l.g, l.r, l.back, l.day, l.loads)
		weak, e := gear.Weak(l.g, l.r, l.back, l.day, l.loads)
		wantList(t, "Weak", weak, e, slow, api.OK)
		if may := l.may(t); may != (len(slow) == 0) {
			t.Fatalf("May(%v) = %v", l, may)
		}
		if len(slow) == 0 {
			lifted++
		}
	}
	if lifted < 300 || lifted > 2700 {
		t.Errorf("%d of 3000 may lift", lifted)
	}
}

// P7.4: lesser loads, and earlier days.
func TestMayLess(t *testing.T) {
	r := random()
	for range 3000 {
		l := randomLift(r)
		if !l.may(t) {
			continue
		}
		l.loads = slices.Clone(l.loads)
		for i, n := range l.loads {
			l.loads[i] = r.IntN(n + 1)
		}
		l.day = r.IntN(l.day + 1)
		if !l.may(t) {
			t.Fatalf("May(%v) is false", l)
		}
	}
}

// P7.3: a rig may lift its Shares, and no more at any end.
func TestMayLiftShares(t *testing.T) {
	r := random()
	for range 500 {
		l := randomLift(r)
		l.back, l.day = nil, 50
		l.loads = mustShares(t, l.g, l.r)
		if !l.may(t) {
			t.Fatalf("May(%v) is false", l)
		}
		for i := range l.loads {
			l.loads[i]++
			if l.may(t) {
				t.Fatalf("May(%v) is true", l)
			}
			l.loads[i]--
		}
	}
}

// P7.4: Until is the last day on which a rig may lift anything.
func TestUntilIsTheLastDay(t *testing.T) {
	r := random()
	for range 500 {
		l := randomLift(r)
		l.back, l.loads = nil, make([]int, len(l.loads))
		until := mustUntil(t, l.g, l.r)
		for _, day := range []int{0, until - 1, until, until + 1, 100_000} {
			l.day = day
			if may := l.may(t); may != (day <= until) {
				t.Fatalf("Until is %d, May(%v) = %v", until, l, may)
			}
		}
	}
}

// P7.5: what a batch touches may lift nothing when it is called back; nothing changes for others.
func TestTouchedMayNot(t *testing.T) {
	r := random()
	touchedRigs, others := 0, 0
	for range 2000 {
		l, batch := randomLift(r), randomBatch(r)
		touched, e := gear.Touched(l.g, [][]api.Link{l.r}, batch)
		wantList(t, "Touched", touched, e, rigsOf(l.g, [][]api.Link{l.r}, batch), api.OK)
		before := l.may(t)
		l.back = append(l.back, batch)
		if len(touched) == 0 {
			others++
			if l.may(t) != before {
				t.Fatalf("May(%v) is not %v", l, before)
			}
			continue
		}
		touchedRigs++
		if l.may(t) || mustMay(t, l.g, l.r, l.back, 0, make([]int, len(l.loads))) {
			t.Fatalf("May(%v) is true", l)
		}
	}
	if touchedRigs < 200 || others < 200 {
		t.Errorf("%d rigs are touched, %d are not", touchedRigs, others)
	}
}
