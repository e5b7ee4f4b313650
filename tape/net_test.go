package tape_test

import (
	"math/big"
	"slices"
	"testing"

	"steeplejack/api"
	"steeplejack/tape"
)

// 5.1: Valid.
func TestValid(t *testing.T) {
	for _, x := range []testNet{
		{1, nil},
		{1, []api.Tape{}},
		{6, nil},
		{3, ring()},
		{6, twoParts()},
		{2, sameTapes(10, 0, 1, 60)},
		{6, tapes(0, 5, 1, 4, 5, 60)},
	} {
		if !tape.Valid(x.nodes, x.tapes) {
			t.Errorf("%v is not valid", x)
		}
	}
	for _, x := range wrongNets() {
		if tape.Valid(x.nodes, x.tapes) {
			t.Errorf("%v is valid", x)
		}
	}
}

// 5.1: Joined, Parts, Bridges and Trees.
func TestNets(t *testing.T) {
	for _, c := range []struct {
		name    string
		nodes   int
		l       []api.Tape
		parts   [][]int
		bridges []int
		trees   int
	}{
		{"the example", 3, ring(), [][]int{{0, 1, 2}}, nil, 3},
		{"a single node", 1, nil, [][]int{{0}}, nil, 1},
		{"two nodes", 2, nil, [][]int{{0}, {1}}, nil, 0},
		{"six nodes", 6, []api.Tape{}, [][]int{{0}, {1}, {2}, {3}, {4}, {5}}, nil, 0},
		{"a tape", 2, tapes(0, 1, 7), [][]int{{0, 1}}, []int{0}, 1},
		{"two tapes side by side", 2, tapes(0, 1, 7, 0, 1, 7), [][]int{{0, 1}}, nil, 2},
		{"the most tapes side by side", 2, sameTapes(10, 0, 1, 60), [][]int{{0, 1}}, nil, 10},
		{"two parts and a node", 6, twoParts(), [][]int{{0, 2, 3}, {1, 4}, {5}}, nil, 0},
		{"a ring beside a node", 4, ring(), [][]int{{0, 1, 2}, {3}}, nil, 0},
		{"two parts with bridges", 5, tapes(1, 3, 1, 0, 4, 1, 2, 4, 1, 0, 4, 2), [][]int{{0, 2, 4}, {1, 3}}, []int{0, 2}, 0},
		{"a row", 6, tapes(4, 5, 1, 3, 4, 1, 2, 3, 1, 1, 2, 1, 0, 1, 1), [][]int{{0, 1, 2, 3, 4, 5}}, []int{0, 1, 2, 3, 4}, 1},
		{"two rings on a bridge", 6, tapes(0, 1, 1, 1, 2, 1, 0, 2, 1, 2, 3, 1, 3, 4, 1, 4, 5, 1, 3, 5, 1), [][]int{{0, 1, 2, 3, 4, 5}}, []int{3}, 9},
		{"all four nodes with each other", 4, tapes(0, 1, 1, 0, 2, 1, 0, 3, 1, 1, 2, 1, 1, 3, 1, 2, 3, 1), [][]int{{0, 1, 2, 3}}, nil, 16},
		{"all five nodes with each other", 5, tapes(0, 1, 1, 0, 2, 1, 0, 3, 1, 0, 4, 1, 1, 2, 1, 1, 3, 1, 1, 4, 1, 2, 3, 1, 2, 4, 1, 3, 4, 1), [][]int{{0, 1, 2, 3, 4}}, nil, 125},
	} {
		parts, e := tape.Parts(c.nodes, c.l)
		if e != api.OK || !slices.EqualFunc(parts, c.parts, slices.Equal) {
			t.Errorf("%s: Parts = %v, error %d", c.name, parts, e)
		}
		bridges, e := tape.Bridges(c.nodes, c.l)
		wantList(t, c.name+": Bridges", bridges, e, c.bridges, api.OK)
		trees, e := tape.Trees(c.nodes, c.l)
		wantNumber(t, c.name+": Trees", trees, e, c.trees, api.OK)
		for _, part := range c.parts {
			for a := range c.nodes {
				for _, b := range part {
					ok, e := tape.Joined(c.nodes, c.l, a, b)
					wantBool(t, c.name+": Joined", ok, e, slices.Contains(part, a), api.OK)
				}
			}
		}
	}
}

// 5.1: nodes that there are not.
func TestJoinedErrors(t *testing.T) {
	for _, n := range notNodes {
		for _, ends := range [][2]int{{n, 0}, {2, n}, {n, n}} {
			ok, e := tape.Joined(3, ring(), ends[0], ends[1])
			wantBool(t, "Joined", ok, e, false, api.ErrRange)
		}
	}
	ok, e := tape.Joined(1, nil, 0, 1)
	wantBool(t, "Joined", ok, e, false, api.ErrRange)
}

// 5.1: nets that are not valid; this comes before nodes that there are not.
func TestWrongNets(t *testing.T) {
	for _, x := range wrongNets() {
		parts, e := tape.Parts(x.nodes, x.tapes)
		if len(parts) > 0 || e != api.ErrInvalid {
			t.Errorf("Parts(%v) = %v, error %d", x, parts, e)
		}
		bridges, e := tape.Bridges(x.nodes, x.tapes)
		wantList(t, "Bridges", bridges, e, nil, api.ErrInvalid)
		trees, e := tape.Trees(x.nodes, x.tapes)
		wantNumber(t, "Trees", trees, e, 0, api.ErrInvalid)
		for _, n := range append(notNodes, 0) {
			ok, e := tape.Joined(x.nodes, x.tapes, n, 0)
			wantBool(t, "Joined", ok, e, false, api.ErrInvalid)
		}
	}
}

// 5.1: Joined, Parts and Bridges of random nets, against nodes that are reached step by step.
func TestNetsAgainstSteps(t *testing.T) {
	r := random()
	several, bridged := 0, 0
	for range 2000 {
		x := randomNet(r, 10)
		var want [][]int
		for node := range x.nodes {
			reached := slowReached(x.tapes, node)
			if reached[0] == node {
				want = append(want, reached)
			}
			for other := range x.nodes {
				if mustJoined(t, x, node, other) != slices.Contains(reached, other) {
					t.Fatalf("Joined(%v, %d, %d)", x, node, other)
				}
			}
		}
		parts, e := tape.Parts(x.nodes, x.tapes)
		if e != api.OK || !slices.EqualFunc(parts, want, slices.Equal) {
			t.Fatalf("Parts(%v) = %v, error %d, want %v", x, parts, e, want)
		}
		if len(want) > 1 {
			several++
		}
		var wantBridges []int
		for i, y := range x.tapes {
			if !slices.Contains(slowReached(slices.Delete(slices.Clone(x.tapes), i, i+1), y.A), y.B) {
				wantBridges = append(wantBridges, i)
			}
		}
		bridges, e := tape.Bridges(x.nodes, x.tapes)
		wantList(t, "Bridges", bridges, e, wantBridges, api.OK)
		bridged += len(bridges)
	}
	if several < 300 || bridged < 300 {
		t.Errorf("%d nets of several parts, %d bridges", several, bridged)
	}
}

// 5.1: Trees of random nets, against determinants.
func TestTreesAgainstDeterminants(t *testing.T) {
	r := random()
	most := 0
	for range 1000 {
		x := randomNet(r, 10)
		trees := mustTrees(t, x)
		if want := slowTrees(x); want.Cmp(frac(trees, 1)) != 0 {
			t.Fatalf("Trees(%v) = %d, want %v", x, trees, want)
		}
		most = max(most, trees)
	}
	if most < 50 {
		t.Errorf("no net has more than %d trees", most)
	}
}

// slowTrees is the determinant of the matrix of the nodes but for the first: its diagonal has their tapes, the other places have the tapes between two, below 0.
func slowTrees(x testNet) *big.Rat {
	m := make([][]*big.Rat, x.nodes-1)
	for i := range m {
		for range m {
			m[i] = append(m[i], new(big.Rat))
		}
	}
	add := func(i, j, n int) {
		if i > 0 && j > 0 {
			m[i-1][j-1].Add(m[i-1][j-1], frac(n, 1))
		}
	}
	for _, y := range x.tapes {
		add(y.A, y.A, 1)
		add(y.B, y.B, 1)
		add(y.A, y.B, -1)
		add(y.B, y.A, -1)
	}
	return determinant(m)
}

// determinant is that of a matrix, by its first row.
func determinant(m [][]*big.Rat) *big.Rat {
	if len(m) == 0 {
		return frac(1, 1)
	}
	sum := new(big.Rat)
	for j, x := range m[0] {
		var smaller [][]*big.Rat
		for _, row := range m[1:] {
			smaller = append(smaller, slices.Concat(row[:j], row[j+1:]))
		}
		x = new(big.Rat).Mul(x, determinant(smaller))
		if j%2 == 1 {
			x.Neg(x)
		}
		sum.Add(sum, x)
	}
	return sum
}

// P5.4: a tape is a bridge exactly if its current is 1 or -1 when it is tested between its own ends.
func TestBridgesByCurrents(t *testing.T) {
	r := random()
	for range 1000 {
		x := randomNet(r, 10)
		bridges, e := tape.Bridges(x.nodes, x.tapes)
		if e != api.OK {
			t.Fatalf("Bridges(%v): error %d", x, e)
		}
		for i, y := range x.tapes {
			there, back := mustCurrents(t, x, y.A, y.B)[i], mustCurrents(t, x, y.B, y.A)[i]
			bridge := slices.Contains(bridges, i)
			if (there == rat(1, 1)) != bridge || (back == rat(-1, 1)) != bridge {
				t.Fatalf("Bridges(%v) = %v, but the tape %d has the currents %v and %v", x, bridges, i, there, back)
			}
		}
	}
}

// P5.5: Trees is the number with a tape left out, and that with its ends merged, together.
func TestTreesWithAndWithout(t *testing.T) {
	r := random()
	for range 500 {
		x := randomNet(r, 10)
		all := mustTrees(t, x)
		for i, y := range x.tapes {
			without, merged := mustTrees(t, mustWithout(t, x, i)), mustTrees(t, mustMerged(t, x, y.A, y.B))
			if all != without+merged {
				t.Fatalf("Trees(%v) = %d; %d without the tape %d, %d with its ends merged", x, all, without, i, merged)
			}
		}
	}
}
