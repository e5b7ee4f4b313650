package tape_test

import (
	"math/big"
	"slices"
	"testing"

	"steeplejack/api"
	"steeplejack/tape"
)

// bridgeNet is Wheatstone's bridge of five tapes.
func bridgeNet(ohms ...int) []api.Tape {
	return tapes(0, 1, ohms[0], 0, 2, ohms[1], 1, 2, ohms[2], 1, 3, ohms[3], 2, 3, ohms[4])
}

// 5.2: Resistance, Currents and Flows.
func TestResistance(t *testing.T) {
	for _, c := range []struct {
		name     string
		nodes    int
		l        []api.Tape
		a, b     int
		want     api.Ratio
		currents []api.Ratio
	}{
		{"the example", 3, ring(), 0, 1, rat(5, 6), rats(5, 6, -1, 6, 1, 6)},
		{"the example the other way", 3, ring(), 1, 0, rat(5, 6), rats(-5, 6, 1, 6, -1, 6)},
		{"the example's two ohms", 3, ring(), 1, 2, rat(4, 3), rats(-1, 3, 2, 3, 1, 3)},
		{"the example's three ohms", 3, ring(), 2, 0, rat(3, 2), rats(-1, 2, -1, 2, -1, 2)},
		{"a node and itself", 3, ring(), 1, 1, rat(0, 1), rats(0, 1, 0, 1, 0, 1)},
		{"a node alone", 1, nil, 0, 0, rat(0, 1), nil},
		{"a node alone beside others", 6, twoParts(), 5, 5, rat(0, 1), rats(0, 1, 0, 1, 0, 1, 0, 1, 0, 1)},
		{"a tape", 2, tapes(0, 1, 60), 0, 1, rat(60, 1), rats(1, 1)},
		{"a tape the other way", 2, tapes(0, 1, 60), 1, 0, rat(60, 1), rats(-1, 1)},
		{"one after the other", 3, tapes(0, 1, 4, 1, 2, 5), 0, 2, rat(9, 1), rats(1, 1, 1, 1)},
		{"a tape to nowhere", 3, tapes(0, 1, 4, 1, 2, 5), 0, 1, rat(4, 1), rats(1, 1, 0, 1)},
		{"side by side", 2, tapes(0, 1, 2, 0, 1, 3), 0, 1, rat(6, 5), rats(3, 5, 2, 5)},
		{"one part", 6, twoParts(), 0, 3, rat(3, 1), rats(1, 2, 0, 1, 1, 2, 1, 2, 0, 1)},
		{"the other part", 6, twoParts(), 4, 1, rat(5, 2), rats(0, 1, -1, 2, 0, 1, 0, 1, -1, 2)},
		{"a bridge in balance", 4, bridgeNet(1, 2, 60, 3, 6), 0, 3, rat(8, 3), rats(2, 3, 1, 3, 0, 1, 2, 3, 1, 3)},
		{"a bridge out of balance", 4, bridgeNet(1, 2, 1, 2, 1), 0, 3, rat(7, 5), rats(3, 5, 2, 5, 1, 5, 2, 5, 3, 5)},
		{"the most tapes side by side", 2, sameTapes(10, 0, 1, 60), 0, 1, rat(6, 1), slices.Repeat(rats(1, 10), 10)},
	} {
		got, e := tape.Resistance(c.nodes, c.l, c.a, c.b)
		wantRatio(t, c.name+": Resistance", got, e, c.want, api.OK)
		currents, e := tape.Currents(c.nodes, c.l, c.a, c.b)
		wantList(t, c.name+": Currents", currents, e, c.currents, api.OK)
		if !tape.Flows(c.nodes, c.l, c.a, c.b, c.currents) {
			t.Errorf("%s: %v do not obey", c.name, c.currents)
		}
	}
}

// 5.2: Resistance and Currents of nodes that there are not, or that are not joined, and of nets that are not valid.
func TestResistanceErrors(t *testing.T) {
	check := func(x testNet, a, b int, want api.Errno) {
		t.Helper()
		got, e := tape.Resistance(x.nodes, x.tapes, a, b)
		wantRatio(t, "Resistance", got, e, api.Ratio{}, want)
		currents, e := tape.Currents(x.nodes, x.tapes, a, b)
		wantList(t, "Currents", currents, e, nil, want)
		if tape.Flows(x.nodes, x.tapes, a, b, make([]api.Ratio, len(x.tapes))) || tape.Flows(x.nodes, x.tapes, a, b, slices.Repeat(rats(0, 1), len(x.tapes))) {
			t.Errorf("Flows(%v, %d, %d)", x, a, b)
		}
	}
	for _, n := range notNodes {
		check(testNet{3, ring()}, n, 0, api.ErrRange)
		check(testNet{3, ring()}, 2, n, api.ErrRange)
		check(testNet{3, ring()}, n, n, api.ErrRange)
		check(testNet{3, nil}, n, n, api.ErrRange)
		check(testNet{3, nil}, 1, n, api.ErrRange)
	}
	check(testNet{6, twoParts()}, 0, 1, api.ErrNone)
	check(testNet{6, twoParts()}, 4, 3, api.ErrNone)
	check(testNet{6, twoParts()}, 5, 0, api.ErrNone)
	check(testNet{2, nil}, 0, 1, api.ErrNone)
	for _, x := range wrongNets() {
		check(x, 0, 0, api.ErrInvalid)
		check(x, 0, 1, api.ErrInvalid)
		check(x, -1, 7, api.ErrInvalid)
	}
}

// 5.2: Flows.
func TestFlows(t *testing.T) {
	const most = 1_000_000_000_000_000_000
	for _, c := range []struct {
		name     string
		nodes    int
		l        []api.Tape
		a, b     int
		currents []api.Ratio
		want     bool
	}{
		{"not in lowest terms", 3, ring(), 0, 1, rats(10, 12, -3, 18, 100_000_000_000_000_000, 600_000_000_000_000_000), true},
		{"the greatest terms", 2, tapes(0, 1, 5), 0, 1, rats(most, most), true},
		{"the least terms", 2, tapes(0, 1, 5), 1, 0, rats(-most, most), true},
		{"a D too great", 2, tapes(0, 1, 5), 0, 1, rats(most+1, most+1), false},
		{"an N too small", 2, tapes(0, 1, 5), 1, 0, rats(-most-1, most+1), false},
		{"nothing of the greatest D", 2, tapes(0, 1, 5), 1, 1, rats(0, most), true},
		{"nothing of a D too great", 2, tapes(0, 1, 5), 1, 1, rats(0, most+1), false},
		{"nothing of a D of 0", 2, tapes(0, 1, 5), 1, 1, rats(0, 0), false},
		{"a D of 0", 2, tapes(0, 1, 5), 0, 1, rats(1, 0), false},
		{"a D below 0", 2, tapes(0, 1, 5), 0, 1, rats(1, -1), false},
		{"both below 0", 2, tapes(0, 1, 5), 0, 1, rats(-1, -1), false},
		{"the other way", 3, ring(), 1, 0, rats(5, 6, -1, 6, 1, 6), false},
		{"between other nodes", 3, ring(), 0, 2, rats(5, 6, -1, 6, 1, 6), false},
		{"too few", 3, ring(), 0, 1, rats(5, 6, -1, 6), false},
		{"too many", 3, ring(), 0, 1, rats(5, 6, -1, 6, 1, 6, 0, 1), false},
		{"none", 3, ring(), 0, 1, nil, false},
		{"none of none", 1, nil, 0, 0, nil, true},
		{"some of none", 1, nil, 0, 0, rats(0, 1), false},
		{"one tape alone", 3, ring(), 0, 1, rats(1, 1, 0, 1, 0, 1), false},
		{"in a circle", 3, ring(), 0, 0, rats(1, 1, 1, 1, -1, 1), false},
		{"nothing", 3, ring(), 2, 2, rats(0, 7, 0, 1, 0, 9), true},
		{"too little", 2, tapes(0, 1, 2, 0, 1, 3), 0, 1, rats(3, 10, 2, 10), false},
		{"in equal parts", 2, tapes(0, 1, 2, 0, 1, 3), 0, 1, rats(1, 2, 1, 2), false},
		{"a circle in the other part", 6, twoParts(), 0, 3, rats(1, 2, 1, 1, 1, 2, 1, 2, -1, 1), false},
		{"nothing in the other part", 6, twoParts(), 0, 3, rats(1, 2, 0, 1, 1, 2, 1, 2, 0, 1), true},
		{"nearly", 2, tapes(0, 1, 5), 0, 1, rats(most-1, most), false},
	} {
		if got := tape.Flows(c.nodes, c.l, c.a, c.b, c.currents); got != c.want {
			t.Errorf("%s: Flows = %v", c.name, got)
		}
	}
}

// 5.2 and P5.2: resistances and currents of random nets, against solved equations of their nodes and against the laws.
func TestAgainstEquations(t *testing.T) {
	r := random()
	joined := 0
	for range 2000 {
		x := randomNet(r, 10)
		n := x.randomNodes(r, 2)
		a, b := n[0], n[1]
		if !mustJoined(t, x, a, b) {
			continue
		}
		joined++
		checkEquations(t, x, a, b)
	}
	if joined < 500 {
		t.Errorf("%d pairs of nodes are joined", joined)
	}
}

// checkEquations checks the resistance and the currents between two nodes that are joined.
func checkEquations(t *testing.T, x testNet, a, b int) {
	t.Helper()
	v := slowVoltages(x, a, b)
	got, currents := mustResistance(t, x, a, b), mustCurrents(t, x, a, b)
	if !isRatio(got, v[a]) || len(currents) != len(x.tapes) {
		t.Fatalf("Resistance(%v, %d, %d) = %v, want %v; currents %v", x, a, b, got, v[a], currents)
	}
	power := new(big.Rat)
	for i, y := range x.tapes {
		want := new(big.Rat)
		if v[y.A] != nil {
			want.Sub(v[y.A], v[y.B]).Quo(want, frac(y.Ohms, 1))
		}
		if !isRatio(currents[i], want) {
			t.Fatalf("Currents(%v, %d, %d) = %v, want %v for the tape %d", x, a, b, currents, want, i)
		}
		square := new(big.Rat).Mul(want, want)
		power.Add(power, square.Mul(square, frac(y.Ohms, 1)))
	}
	if !isRatio(got, power) {
		t.Fatalf("Resistance(%v, %d, %d) = %v; its currents make %v", x, a, b, got, power)
	}
	checkNodes(t, x, a, b, currents)
}

// checkNodes checks that as much flows into each node as out.
func checkNodes(t *testing.T, x testNet, a, b int, currents []api.Ratio) {
	t.Helper()
	for node := range x.nodes {
		out := new(big.Rat)
		for i, y := range x.tapes {
			if y.A == node {
				out.Add(out, toFrac(currents[i]))
			}
			if y.B == node {
				out.Sub(out, toFrac(currents[i]))
			}
		}
		want := 0
		if node == a {
			want++
		}
		if node == b {
			want--
		}
		if out.Cmp(frac(want, 1)) != 0 {
			t.Fatalf("Currents(%v, %d, %d) = %v: %v out of the node %d", x, a, b, currents, out, node)
		}
	}
}

// P5.2: currents obey the laws in whatever terms, and no others do.
func TestNoOthersFlow(t *testing.T) {
	r := random()
	flowed := 0
	for range 1000 {
		x := randomNet(r, 10)
		n := x.randomNodes(r, 2)
		if len(x.tapes) == 0 || !mustJoined(t, x, n[0], n[1]) {
			continue
		}
		flowed++
		currents := mustCurrents(t, x, n[0], n[1])
		flows := func() bool { return tape.Flows(x.nodes, x.tapes, n[0], n[1], currents) }
		if !flows() {
			t.Fatalf("%v do not obey in %v between %v", currents, x, n)
		}
		at := r.IntN(len(currents))
		own := currents[at]
		if k := 1 + r.IntN(1_000_000_000_000_000_000/max(own.D, own.N, -own.N)); k > 0 {
			currents[at] = rat(own.N*k, own.D*k)
			if !flows() {
				t.Fatalf("%v do not obey in %v between %v", currents, x, n)
			}
		}
		for _, other := range rats(own.N+1, own.D, own.N-1, own.D, own.N, own.D+1, -own.N, own.D, own.D, max(own.N, 1)) {
			currents[at] = other
			if toFrac(other).Cmp(toFrac(own)) != 0 && flows() {
				t.Fatalf("%v obey in %v between %v", currents, x, n)
			}
		}
	}
	if flowed < 300 {
		t.Errorf("%d nets", flowed)
	}
}

// 5.2: nets with the greatest fractions.
func TestGreatestFractions(t *testing.T) {
	primes := []int{59, 53, 47, 43, 41, 37, 31, 29, 23, 19}
	for nodes := 2; nodes <= api.MaxNodes; nodes++ {
		for _, ohms := range [][]int{primes, {60, 59, 60, 59, 60, 59, 60, 59, 60, 59}, {60, 60, 60, 60, 60, 60, 60, 60, 60, 60}} {
			x := testNet{nodes: nodes}
			for i := range api.MaxTapes {
				a, b := i%nodes, (i+1+i/nodes%(nodes-1))%nodes
				x.tapes = append(x.tapes, api.Tape{A: min(a, b), B: max(a, b), Ohms: ohms[i]})
			}
			if !tape.Valid(x.nodes, x.tapes) {
				t.Fatalf("%v is not valid", x)
			}
			for a := range nodes {
				for b := range nodes {
					checkEquations(t, x, a, b)
				}
			}
		}
	}
}

// P5.3: without a tape no resistance is less, with one more none is greater.
func TestLessIsMore(t *testing.T) {
	r := random()
	greater := 0
	for range 1000 {
		x := randomNet(r, 9)
		if x.nodes == 1 {
			continue
		}
		n := x.randomNodes(r, 2)
		l, e := tape.Added(x.nodes, x.tapes, randomTape(r, x.nodes, 60))
		if e != api.OK {
			t.Fatalf("Added: error %d", e)
		}
		more := testNet{x.nodes, l}
		if !mustJoined(t, x, n[0], n[1]) {
			continue
		}
		before, after := mustResistance(t, x, n[0], n[1]), mustResistance(t, more, n[0], n[1])
		if tape.Compare(after, before) > 0 {
			t.Fatalf("%v: between %v are %v, %v with one tape more", x, n, before, after)
		}
		for i := range more.tapes {
			less := mustWithout(t, more, i)
			if !mustJoined(t, less, n[0], n[1]) {
				continue
			}
			switch tape.Compare(mustResistance(t, less, n[0], n[1]), after) {
			case -1:
				t.Fatalf("%v: between %v is less without %d", more, n, i)
			case 1:
				greater++
			}
		}
	}
	if greater < 500 {
		t.Errorf("%d resistances are greater without a tape", greater)
	}
}

// P5.3: resistance does not depend on the order of the two nodes, and no way round is less.
func TestWaysRound(t *testing.T) {
	r := random()
	for range 1000 {
		x := randomNet(r, 10)
		n := x.randomNodes(r, 3)
		if !mustJoined(t, x, n[0], n[1]) {
			continue
		}
		there, back := mustResistance(t, x, n[0], n[1]), mustResistance(t, x, n[1], n[0])
		if there != back {
			t.Fatalf("%v: %v are %v there, %v back", x, n, there, back)
		}
		if !mustJoined(t, x, n[1], n[2]) {
			continue
		}
		sum := toFrac(there)
		sum.Add(sum, toFrac(mustResistance(t, x, n[1], n[2])))
		if toFrac(mustResistance(t, x, n[0], n[2])).Cmp(sum) > 0 {
			t.Fatalf("%v: %v is more than by %d", x, n, n[1])
		}
	}
}

// P5.4: merging two nodes makes no resistance greater.
func TestMergingMakesNoneGreater(t *testing.T) {
	r := random()
	less := 0
	for range 1000 {
		x := randomNet(r, 10)
		n := x.randomNodes(r, 4)
		if n[0] == n[1] || !mustJoined(t, x, n[2], n[3]) {
			continue
		}
		kept, gone := min(n[0], n[1]), max(n[0], n[1])
		number := func(node int) int {
			if node == gone {
				return kept
			}
			if node > gone {
				return node - 1
			}
			return node
		}
		before := mustResistance(t, x, n[2], n[3])
		after := mustResistance(t, mustMerged(t, x, n[0], n[1]), number(n[2]), number(n[3]))
		switch tape.Compare(after, before) {
		case 1:
			t.Fatalf("%v: merging %v makes %v of %v", x, n, after, before)
		case -1:
			less++
		}
	}
	if less < 100 {
		t.Errorf("%d resistances are less", less)
	}
}
