package ladder_test

import (
	"testing"

	"steeplejack/api"
	"steeplejack/ladder"
)

// long makes a climb of the example with other ladders and another top.
func long(top, length, lap int) api.Climb {
	c := example()
	c.Top, c.Length, c.Lap = top, length, lap
	return c
}

// 3.3: On.
func TestOn(t *testing.T) {
	l := js(5, 10, -15, 20, 30, 40)
	for _, c := range []struct {
		name string
		c    api.Climb
		dogs []int
		foot int
		want []int
		e    api.Errno
	}{
		{"from the lowest", example(), []int{1, 3, 4, 5}, 0, []int{0, 1, 2}, api.OK},
		{"up to the highest", example(), []int{1, 3, 4, 5}, 1, []int{1, 2, 3}, api.OK},
		{"beyond the highest", example(), []int{1, 3, 4, 5}, 2, []int{2, 3}, api.OK},
		{"its foot alone", example(), []int{1, 3, 4, 5}, 3, []int{3}, api.OK},
		{"a dog at its end", long(50, 20, 5), []int{1, 3, 4, 5}, 0, []int{0, 1, 2}, api.OK},
		{"a dog just above its end", long(50, 19, 5), []int{1, 3, 4, 5}, 0, []int{0, 1}, api.OK},
		{"joints without dogs", example(), []int{1, 4, 5}, 0, []int{0, 1}, api.OK},
		{"the longest", long(50, 200_000, 5), []int{0, 1, 3, 4, 5}, 0, []int{0, 1, 2, 3, 4}, api.OK},
		{"no such foot", example(), []int{1, 3, 4, 5}, 4, nil, api.ErrRange},
		{"no foot below 0", example(), []int{1, 3, 4, 5}, -1, nil, api.ErrRange},
		{"no dogs", example(), nil, 0, nil, api.ErrRange},
		{"dogs that are not right", example(), []int{1, 3}, 0, nil, api.ErrState},
		{"no such foot of dogs that are not right", example(), []int{1, 3}, 2, nil, api.ErrRange},
		{"a wrong index", example(), []int{1, 3, 4, 6}, 0, nil, api.ErrState},
		{"a foot of a wrong index", example(), []int{1, 3, 4, 6}, 3, nil, api.ErrState},
		{"a joint that is not sound", example(), []int{1, 2, 3, 4}, 1, nil, api.ErrState},
	} {
		got, e := ladder.On(c.c, l, c.dogs, c.foot)
		wantList(t, c.name+": On", got, e, c.want, c.e)
	}
}

// 3.3: Set, at the edges of its rules.
func TestSet(t *testing.T) {
	from20 := example()
	from20.First = 20
	from19 := example()
	from19.First = 19
	for _, c := range []struct {
		name          string
		c             api.Climb
		l             []api.Joint
		dogs, ladders []int
		want          bool
	}{
		{"the example", example(), exampleJoints(), upTo(4), []int{0, 2}, true},
		{"more than needed", example(), exampleJoints(), upTo(4), []int{0, 1, 2}, true},
		{"a lap just too short", long(50, 25, 6), exampleJoints(), upTo(4), []int{0, 2}, false},
		{"each lap long enough", long(50, 25, 6), exampleJoints(), upTo(4), []int{0, 1, 2}, true},
		{"just up to the top", long(55, 25, 5), exampleJoints(), upTo(4), []int{0, 2}, true},
		{"just not up to the top", long(56, 25, 5), exampleJoints(), upTo(4), []int{0, 2}, false},
		{"on a dog above the first ones", example(), exampleJoints(), upTo(4), []int{1, 2}, false},
		{"on the second of the first dogs", from20, exampleJoints(), upTo(4), []int{1, 2}, true},
		{"on a dog just above the first ones", from19, exampleJoints(), upTo(4), []int{1, 2}, false},
		{"the last one on its foot's dog alone", long(60, 25, 5), exampleJoints(), upTo(4), []int{0, 2, 3}, false},
		{"an upper one too many on its foot's dog alone", example(), exampleJoints(), upTo(4), []int{0, 2, 3}, false},
		{"a dog just at the end", long(40, 20, 0), exampleJoints(), []int{0, 2, 3}, []int{0, 1}, true},
		{"a dog just above the end", long(40, 19, 0), exampleJoints(), []int{0, 2, 3}, []int{0, 1}, false},
		{"one", long(35, 25, 5), exampleJoints(), []int{0, 1}, []int{0}, true},
		{"a single dog", long(30, 25, 5), exampleJoints(), []int{0}, []int{0}, false},
		{"none", long(5, 25, 5), exampleJoints(), []int{0, 1}, nil, false},
		{"twice", example(), exampleJoints(), upTo(4), []int{0, 0, 2}, false},
		{"descending", from20, exampleJoints(), upTo(4), []int{1, 0, 2}, false},
		{"index -1", example(), exampleJoints(), upTo(4), []int{-1, 0, 2}, false},
		{"index 4", example(), exampleJoints(), upTo(4), []int{0, 2, 4}, false},
		{"indexes of joints, not of dogs", example(), js(-5, 10, 20, 30, 40), []int{1, 2, 3, 4}, []int{1, 3}, false},
		{"indexes of dogs", example(), js(-5, 10, 20, 30, 40), []int{1, 2, 3, 4}, []int{0, 2}, true},
		{"dogs that are not right", example(), exampleJoints(), []int{0, 1}, []int{0, 1}, false},
		{"dogs of wrong indexes", example(), exampleJoints(), []int{0, 1, 2, 4}, []int{0, 2}, false},
		{"dogs in joints that are not sound", example(), js(10, 20, -30, 40), upTo(4), []int{0, 2}, false},
		{"no dogs", example(), exampleJoints(), nil, []int{0, 2}, false},
	} {
		if ladder.Set(c.c, c.l, c.dogs, c.ladders) != c.want {
			t.Errorf("%s: Set = %v", c.name, !c.want)
		}
	}
	for _, bad := range wrongClimbs() {
		if ladder.Set(bad, exampleJoints(), upTo(4), []int{0, 2}) {
			t.Errorf("right for %v", bad)
		}
	}
	for _, bad := range wrongJoints() {
		if ladder.Set(long(1, 25, 5), bad, upTo(len(bad)), []int{0}) {
			t.Errorf("right for %v", bad)
		}
	}
}

// 3.3: Ladders.
func TestLadders(t *testing.T) {
	from20, from30 := example(), example()
	from20.First, from30.First = 20, 30
	high := api.Climb{First: 60, Gap: 30, Top: 50, Length: 25, Lap: 0, Strength: 1}
	deep := api.Climb{First: 1, Gap: 1, Top: 200, Length: 2, Lap: 1, Strength: 1}
	wide := api.Climb{First: 100, Gap: 100, Top: 195, Length: 60, Lap: 20, Strength: 1}
	for _, c := range []struct {
		name string
		c    api.Climb
		l    []api.Joint
		dogs []int
		want []int
		e    api.Errno
	}{
		{"the example", example(), exampleJoints(), upTo(4), []int{0, 2}, api.OK},
		{"shorter steps", long(50, 25, 6), exampleJoints(), upTo(4), []int{0, 1, 2}, api.OK},
		{"the first of several", from20, exampleJoints(), upTo(4), []int{0, 2}, api.OK},
		{"one that is not the lowest", from30, exampleJoints(), upTo(4), []int{2}, api.OK},
		{"one", long(35, 25, 5), exampleJoints(), []int{0, 1}, []int{0}, api.OK},
		{"indexes of dogs, not of joints", example(), js(-5, 10, 20, 30, 40), []int{1, 2, 3, 4}, []int{0, 2}, api.OK},
		{"a single dog", long(30, 25, 5), exampleJoints(), []int{0}, nil, api.ErrNone},
		{"just not up to the top", long(56, 25, 5), exampleJoints(), upTo(4), nil, api.ErrNone},
		{"the only one up to the top has a single dog", long(60, 25, 5), exampleJoints(), upTo(4), nil, api.ErrNone},
		{"too short", long(50, 9, 0), exampleJoints(), upTo(4), nil, api.ErrNone},
		{"steps too short", long(50, 25, 16), exampleJoints(), upTo(4), nil, api.ErrNone},
		{"three", long(75, 25, 0), js(10, 30, 31, 50, 60), upTo(5), []int{0, 1, 3}, api.OK},
		{"a foot with a single dog is passed over", high, js(10, 30, 60, 62), upTo(4), []int{2}, api.OK},
		{"very many dogs", deep, rows(200, 1), upTo(200), upTo(198), api.OK},
		{"very many lists", wide, rows(200, 1), upTo(200), []int{94, 134}, api.OK},
		{"dogs that are not right", example(), exampleJoints(), []int{0, 1}, nil, api.ErrState},
		{"dogs of wrong indexes", example(), exampleJoints(), []int{0, 1, 2, 4}, nil, api.ErrState},
		{"no dogs", example(), exampleJoints(), nil, nil, api.ErrState},
		{"joints that are not valid", example(), js(10, 20, 20, 40), upTo(4), nil, api.ErrInvalid},
	} {
		got, e := ladder.Ladders(c.c, c.l, c.dogs)
		wantList(t, c.name+": Ladders", got, e, c.want, c.e)
	}
}

// 3.3: Bears and Greatest.
func TestBears(t *testing.T) {
	strong := api.Climb{First: 200_000, Gap: 200_000, Top: 200, Length: 200_000, Lap: 0, Strength: 1_000_000}
	for _, c := range []struct {
		name          string
		c             api.Climb
		l             []api.Joint
		dogs, ladders []int
		want          int
	}{
		{"the example", example(), exampleJoints(), upTo(4), []int{0, 2}, 1000},
		{"three dogs each", long(45, 25, 5), exampleJoints(), upTo(4), []int{0, 1}, 2000},
		{"four dogs", long(40, 30, 5), exampleJoints(), upTo(4), []int{0}, 3000},
		{"the weakest in the middle", long(60, 25, 0), js(10, 20, 30, 50, 55, 58), upTo(6), []int{0, 1, 2, 3}, 1000},
		{"the weakest below", long(60, 25, 5), js(10, 25, 36, 38, 40, 42), upTo(6), []int{0, 1, 2}, 1000},
		{"the most dogs of the greatest strength", strong, rows(200, 1), upTo(200), []int{0}, 199_000_000},
	} {
		n, e := ladder.Greatest(c.c, c.l, c.dogs, c.ladders)
		wantNumber(t, c.name+": Greatest", n, e, c.want, api.OK)
		for _, load := range []int{0, 1, c.want - 1, c.want, c.want + 1, 2 * c.want, 1_000_000_000} {
			if ok, e := ladder.Bears(c.c, c.l, c.dogs, c.ladders, load); ok != (load <= c.want) || e != api.OK {
				t.Errorf("%s: Bears(%d) = %v, error %d", c.name, load, ok, e)
			}
		}
	}
}

// 3.3 and Details: the errors of Bears and Greatest, in their order.
func TestBearsErrors(t *testing.T) {
	for _, c := range []struct {
		name          string
		c             api.Climb
		l             []api.Joint
		dogs, ladders []int
		load          int
		e             api.Errno
	}{
		{"all is wrong", api.Climb{}, js(20, 10), []int{7}, []int{9}, -1, api.ErrInvalid},
		{"joints that are not valid", example(), js(20, 10), upTo(2), []int{0}, 1, api.ErrInvalid},
		{"a climb that is not valid", long(50, 25, 25), exampleJoints(), upTo(4), []int{0, 2}, 1, api.ErrInvalid},
		{"a load below 0", example(), exampleJoints(), upTo(4), []int{0, 2}, -1, api.ErrRange},
		{"a load too great", example(), exampleJoints(), upTo(4), []int{0, 2}, 1_000_000_001, api.ErrRange},
		{"a load too great on wrong dogs", example(), exampleJoints(), upTo(2), []int{0}, 1_000_000_001, api.ErrRange},
		{"dogs that are not right", example(), exampleJoints(), upTo(2), []int{0}, 1, api.ErrState},
		{"dogs of wrong indexes", example(), exampleJoints(), []int{0, 1, 2, 4}, []int{0, 2}, 1, api.ErrState},
		{"ladders that are not right", example(), exampleJoints(), upTo(4), []int{0}, 1, api.ErrState},
		{"ladders of wrong indexes", example(), exampleJoints(), upTo(4), []int{0, 2, 4}, 1, api.ErrState},
		{"no ladders", example(), exampleJoints(), upTo(4), nil, 0, api.ErrState},
	} {
		if ok, e := ladder.Bears(c.c, c.l, c.dogs, c.ladders, c.load); ok || e != c.e {
			t.Errorf("%s: Bears = %v, error %d, want error %d", c.name, ok, e, c.e)
		}
		if c.e == api.ErrRange { // the load's error
			continue
		}
		n, e := ladder.Greatest(c.c, c.l, c.dogs, c.ladders)
		wantNumber(t, c.name+": Greatest", n, e, 0, c.e)
	}
	for _, bad := range wrongClimbs() {
		_, e := ladder.On(bad, exampleJoints(), upTo(4), 9)
		wantNumber(t, "On", 0, e, 0, api.ErrInvalid)
		got, e := ladder.Ladders(bad, exampleJoints(), nil)
		wantList(t, "Ladders", got, e, nil, api.ErrInvalid)
	}
}

// P3.5: what is said about ladders, against all lists that there are.
func TestLaddersAgainstAllLists(t *testing.T) {
	r := random()
	set, none := 0, 0
	for range 3000 {
		c, l := randomClimb(r), randomJoints(r, 3+r.IntN(6), 30)
		dogs, _ := ladder.Sound(l)
		if !slowRight(c, l, dogs) {
			got, e := ladder.Ladders(c, l, dogs)
			wantList(t, "Ladders", got, e, nil, api.ErrState)
			continue
		}
		for foot := range dogs {
			got, e := ladder.On(c, l, dogs, foot)
			wantList(t, "On", got, e, slowOn(c, l, dogs, foot), api.OK)
		}
		for _, x := range picks(0, len(dogs)) {
			if ladder.Set(c, l, dogs, x) != slowSet(c, l, dogs, x) {
				t.Fatalf("Set(%v, %v, %v, %v)", c, l, dogs, x)
			}
		}
		all := allSets(c, l, dogs)
		got, e := ladder.Ladders(c, l, dogs)
		if len(all) == 0 {
			wantList(t, "Ladders", got, e, nil, api.ErrNone)
			none++
		} else {
			wantList(t, "Ladders", got, e, shortest(all), api.OK)
			checkGreatest(t, c, l, dogs, all[r.IntN(len(all))])
			set++
		}
		if t.Failed() {
			t.Fatalf("%v, %v, %v", c, l, dogs)
		}
	}
	if set < 100 || none < 50 {
		t.Errorf("%d lists of dogs have ladders, %d have none", set, none)
	}
}

// checkGreatest tries loads around what the ladder with the fewest dogs bears.
func checkGreatest(t *testing.T, c api.Climb, l []api.Joint, dogs, ladders []int) {
	t.Helper()
	fewest := len(dogs)
	for _, foot := range ladders {
		fewest = min(fewest, len(slowOn(c, l, dogs, foot)))
	}
	want := c.Strength * (fewest - 1)
	n, e := ladder.Greatest(c, l, dogs, ladders)
	wantNumber(t, "Greatest", n, e, want, api.OK)
	for load := range want + 3 {
		if ok, e := ladder.Bears(c, l, dogs, ladders, load); ok != (load <= want) || e != api.OK {
			t.Errorf("Bears(%d) = %v, error %d, Greatest is %d", load, ok, e, want)
		}
	}
}

// P3.2 and P3.5, on walls with as many joints as can be: who takes the highest place within reach each time needs fewest.
func TestHighWalls(t *testing.T) {
	r := random()
	dogsFound, laddersFound := 0, 0
	for range 60 {
		l := randomJoints(r, 200, 200_000)
		c := api.Climb{First: 9000, Gap: 5000 + r.IntN(9000), Top: 190_000, Length: 20_000 + r.IntN(40_000), Lap: r.IntN(9000), Strength: 5000}
		sound, _ := ladder.Sound(l)
		fewest, e := ladder.Fewest(c, l)
		if want := leaps(c.First, c.Gap, c.Top-c.Gap, l, sound); len(fewest) != want || (e == api.OK) != (want > 0) {
			t.Errorf("Fewest = %v, error %d, want %d dogs", fewest, e, want)
		}
		if e != api.OK {
			continue
		}
		dogsFound++
		for _, dogs := range [][]int{fewest, sound} {
			var feet []int
			for i, d := range dogs {
				if len(slowOn(c, l, dogs, i)) > 1 {
					feet = append(feet, d)
				}
			}
			ladders, e := ladder.Ladders(c, l, dogs)
			if want := leaps(c.First, c.Length-c.Lap, c.Top-c.Length, l, feet); len(ladders) != want || (e == api.OK) != (want > 0) {
				t.Errorf("Ladders = %v, error %d, want %d ladders", ladders, e, want)
			}
			if e == api.OK {
				laddersFound++
			}
		}
	}
	if dogsFound < 20 || laddersFound < 20 {
		t.Errorf("%d lists of dogs, %d of ladders", dogsFound, laddersFound)
	}
}

// leaps counts the joints of a list that one takes who always takes the highest one, 0 if one gets stuck.
func leaps(first, step, last int, l []api.Joint, list []int) int {
	at, height, n := 0, first, 0
	for {
		next := at
		for _, i := range list {
			if l[i].Height <= height {
				next = l[i].Height
			}
		}
		if next == at {
			return 0
		}
		at, height, n = next, next+step, n+1
		if at >= last {
			return n
		}
	}
}
