package ladder_test

import (
	"math"
	"math/rand/v2"
	"slices"
	"testing"

	"steeplejack/api"
)

// js makes joints of their heights; one that is not sound has a minus.
func js(heights ...int) []api.Joint {
	var l []api.Joint
	for _, h := range heights {
		l = append(l, api.Joint{Height: max(h, -h), Sound: h > 0})
	}
	return l
}

// climb makes a climb whose ladders do not matter.
func climb(first, gap, top int) api.Climb {
	return api.Climb{First: first, Gap: gap, Top: top, Length: 1, Strength: 1}
}

// example and exampleJoints are the chapter's example.
func example() api.Climb {
	return api.Climb{First: 10, Gap: 20, Top: 50, Length: 25, Lap: 5, Strength: 1000}
}

func exampleJoints() []api.Joint { return js(10, 20, 30, 40) }

// rows makes n sound joints that are a step apart.
func rows(n, step int) []api.Joint {
	var l []api.Joint
	for i := range n {
		l = append(l, api.Joint{Height: (i + 1) * step, Sound: true})
	}
	return l
}

// upTo is the list of the numbers below n.
func upTo(n int) []int {
	var l []int
	for i := range n {
		l = append(l, i)
	}
	return l
}

// wild is numbers at which reckoning without care goes wrong.
var wild = []int{math.MinInt, math.MinInt + 1, -1, 0, 1, 2, 20, 200_000, 200_001, 1_000_000_001, math.MaxInt - 1, math.MaxInt}

// wrongJoints is joints that are not valid, wrongClimbs climbs that are not.
func wrongJoints() [][]api.Joint {
	return [][]api.Joint{rows(201, 1), js(0), {{Height: 0, Sound: true}}, {{Height: -1}}, js(10, 10), js(20, 10), js(10, 200_001)}
}

func wrongClimbs() []api.Climb {
	var l []api.Climb
	for _, change := range []func(c *api.Climb){
		func(c *api.Climb) { c.First = 0 },
		func(c *api.Climb) { c.First = 200_001 },
		func(c *api.Climb) { c.Gap = 0 },
		func(c *api.Climb) { c.Gap = 200_001 },
		func(c *api.Climb) { c.Top = 0 },
		func(c *api.Climb) { c.Top = 200_001 },
		func(c *api.Climb) { c.Length, c.Lap = 0, 0 },
		func(c *api.Climb) { c.Length, c.Lap = 0, -1 },
		func(c *api.Climb) { c.Length = 200_001 },
		func(c *api.Climb) { c.Lap = -1 },
		func(c *api.Climb) { c.Lap = c.Length },
		func(c *api.Climb) { c.Strength = 0 },
		func(c *api.Climb) { c.Strength = 1_000_001 },
	} {
		c := example()
		change(&c)
		l = append(l, c)
	}
	return l
}

// random is the same numbers in each run.
func random() *rand.Rand { return rand.New(rand.NewPCG(5, 6)) }

// randomJoints makes n joints of which one in four is not sound.
func randomJoints(r *rand.Rand, n, most int) []api.Joint {
	heights := r.Perm(most)[:n]
	slices.Sort(heights)
	l := make([]api.Joint, n)
	for i, h := range heights {
		l[i] = api.Joint{Height: h + 1, Sound: r.IntN(4) > 0}
	}
	return l
}

func randomClimb(r *rand.Rand) api.Climb {
	length := 1 + r.IntN(20)
	return api.Climb{First: 1 + r.IntN(14), Gap: 1 + r.IntN(12), Top: 1 + r.IntN(35), Length: length, Lap: r.IntN(length), Strength: 1 + r.IntN(9)}
}

// slowRight reports whether dogs are right, as the chapter words it.
func slowRight(c api.Climb, l []api.Joint, dogs []int) bool {
	for i, d := range dogs {
		if d < 0 || d >= len(l) || !l[d].Sound || i > 0 && dogs[i-1] >= d {
			return false
		}
	}
	if len(dogs) == 0 || l[dogs[0]].Height > c.First {
		return false
	}
	for i := 1; i < len(dogs); i++ {
		if l[dogs[i]].Height > l[dogs[i-1]].Height+c.Gap {
			return false
		}
	}
	return l[dogs[len(dogs)-1]].Height+c.Gap >= c.Top
}

// slowOn is the dogs on a ladder that stands on one of them.
func slowOn(c api.Climb, l []api.Joint, dogs []int, foot int) []int {
	var on []int
	at := l[dogs[foot]].Height
	for i, d := range dogs {
		if at <= l[d].Height && l[d].Height <= at+c.Length {
			on = append(on, i)
		}
	}
	return on
}

// slowSet reports whether ladders are right for right dogs.
func slowSet(c api.Climb, l []api.Joint, dogs, ladders []int) bool {
	for i, foot := range ladders {
		if foot < 0 || foot >= len(dogs) || i > 0 && ladders[i-1] >= foot || len(slowOn(c, l, dogs, foot)) < 2 {
			return false
		}
	}
	if len(ladders) == 0 || l[dogs[ladders[0]]].Height > c.First {
		return false
	}
	for i := 1; i < len(ladders); i++ {
		if l[dogs[ladders[i]]].Height > l[dogs[ladders[i-1]]].Height+c.Length-c.Lap {
			return false
		}
	}
	return l[dogs[ladders[len(ladders)-1]]].Height+c.Length >= c.Top
}

// picks is all lists of numbers from a number on to below n, in strictly ascending order, sorted as lists of numbers.
func picks(from, n int) [][]int {
	out := [][]int{nil}
	for i := from; i < n; i++ {
		for _, rest := range picks(i+1, n) {
			out = append(out, append([]int{i}, rest...))
		}
	}
	return out
}

// shortest is the first of the shortest lists of which all are in order.
func shortest(l [][]int) []int {
	if len(l) == 0 {
		return nil
	}
	best := l[0]
	for _, x := range l {
		if len(x) < len(best) {
			best = x
		}
	}
	return best
}

// allRight is all right lists of dogs, allSets all right lists of ladders.
func allRight(c api.Climb, l []api.Joint) [][]int {
	return slices.DeleteFunc(picks(0, len(l)), func(dogs []int) bool { return !slowRight(c, l, dogs) })
}

func allSets(c api.Climb, l []api.Joint, dogs []int) [][]int {
	return slices.DeleteFunc(picks(0, len(dogs)), func(x []int) bool { return !slowSet(c, l, dogs, x) })
}

// wantList checks a list and its error, which is expected if there is no list.
func wantList(t *testing.T, what string, got []int, e api.Errno, want []int, none api.Errno) {
	t.Helper()
	if none == api.OK && (e != api.OK || !slices.Equal(got, want)) {
		t.Errorf("%s = %v, error %d, want %v", what, got, e, want)
	}
	if none != api.OK && (e != none || len(got) != 0) {
		t.Errorf("%s = %v, error %d, want error %d", what, got, e, none)
	}
}

func wantNumber(t *testing.T, what string, got int, e api.Errno, want int, none api.Errno) {
	t.Helper()
	if e != none || none == api.OK && got != want || none != api.OK && got != 0 {
		t.Errorf("%s = %d, error %d, want %d, error %d", what, got, e, want, none)
	}
}
