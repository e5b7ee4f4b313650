package tape_test

import (
	"math"
	"math/big"
	"math/rand/v2"
	"slices"
	"testing"

	"steeplejack/api"
	"steeplejack/tape"
)

// tapes makes tapes of threes: two nodes and Ohms.
func tapes(n ...int) []api.Tape {
	var l []api.Tape
	for p := range slices.Chunk(n, 3) {
		l = append(l, api.Tape{A: p[0], B: p[1], Ohms: p[2]})
	}
	return l
}

// sameTapes makes n tapes that are the same.
func sameTapes(n, a, b, ohms int) []api.Tape { return slices.Repeat(tapes(a, b, ohms), n) }

// ring is the example of the chapter, of three nodes.
func ring() []api.Tape { return tapes(0, 1, 1, 1, 2, 2, 0, 2, 3) }

// twoParts has the parts 0 2 3, 1 4 and 5.
func twoParts() []api.Tape { return tapes(0, 2, 2, 1, 4, 5, 2, 3, 4, 0, 3, 6, 1, 4, 5) }

func rat(n, d int) api.Ratio { return api.Ratio{N: n, D: d} }

// rats makes fractions of pairs.
func rats(n ...int) []api.Ratio {
	var l []api.Ratio
	for p := range slices.Chunk(n, 2) {
		l = append(l, rat(p[0], p[1]))
	}
	return l
}

func reading(a, b int, lo, hi api.Ratio) api.Reading {
	return api.Reading{A: a, B: b, Lo: lo, Hi: hi}
}

// exactly is a reading of just one resistance.
func exactly(a, b int, r api.Ratio) api.Reading { return reading(a, b, r, r) }

// wild is numbers at which reckoning without care goes wrong.
var wild = []int{math.MinInt, math.MinInt + 1, -1, 0, 1, 2, 6, 61, 1_000_000_001, math.MaxInt - 1, math.MaxInt}

// notNodes is numbers that are no nodes of a net of three.
var notNodes = []int{math.MinInt, -1, 3, 4, math.MaxInt}

// testNet is a net with the number of its nodes.
type testNet struct {
	nodes int
	tapes []api.Tape
}

// wrongNets is nets that are not valid.
func wrongNets() []testNet {
	return []testNet{
		{0, nil},
		{-1, nil},
		{7, nil},
		{math.MinInt, nil},
		{math.MaxInt, nil},
		{7, tapes(0, 1, 1)},
		{1, tapes(0, 1, 1)},
		{1, tapes(0, 0, 1)},
		{3, tapes(-1, 1, 1)},
		{3, tapes(0, 3, 1)},
		{3, tapes(1, 0, 1)},
		{3, tapes(1, 1, 1)},
		{3, tapes(0, 1, 0)},
		{3, tapes(0, 1, -1)},
		{3, tapes(0, 1, 61)},
		{3, tapes(0, 1, 1, 2, 1, 1)},
		{3, tapes(0, 1, 1, 1, 2, 61)},
		{3, tapes(math.MinInt, math.MaxInt, 1)},
		{3, sameTapes(11, 0, 1, 1)},
	}
}

// random is the same numbers in each run.
func random() *rand.Rand { return rand.New(rand.NewPCG(5, 14)) }

func randomTape(r *rand.Rand, nodes, most int) api.Tape {
	a, b := r.IntN(nodes), r.IntN(nodes-1)
	if b >= a {
		b++
	}
	return api.Tape{A: min(a, b), B: max(a, b), Ohms: 1 + r.IntN(most)}
}

// randomNet makes a net of at most `most` tapes, some of few Ohms.
func randomNet(r *rand.Rand, most int) testNet {
	x := testNet{nodes: 1 + r.IntN(api.MaxNodes)}
	if x.nodes == 1 {
		return x
	}
	ohms := []int{3, api.MaxOhms}[r.IntN(2)]
	for range r.IntN(most + 1) {
		x.tapes = append(x.tapes, randomTape(r, x.nodes, ohms))
	}
	return x
}

// randomNodes is n nodes of a net.
func (x testNet) randomNodes(r *rand.Rand, n int) []int {
	l := make([]int, n)
	for i := range l {
		l[i] = r.IntN(x.nodes)
	}
	return l
}

func frac(n, d int) *big.Rat { return big.NewRat(int64(n), int64(d)) }

func toFrac(r api.Ratio) *big.Rat { return frac(r.N, r.D) }

// isRatio reports whether a fraction is in lowest terms and is r.
func isRatio(got api.Ratio, r *big.Rat) bool {
	return r.Num().IsInt64() && r.Denom().IsInt64() && got == api.Ratio{N: int(r.Num().Int64()), D: int(r.Denom().Int64())}
}

// slowReached is the nodes to which tapes lead from one, step by step.
func slowReached(l []api.Tape, from int) []int {
	reached := []int{from}
	for i := 0; i < len(reached); i++ {
		for _, t := range l {
			for _, ends := range [][2]int{{t.A, t.B}, {t.B, t.A}} {
				if ends[0] == reached[i] && !slices.Contains(reached, ends[1]) {
					reached = append(reached, ends[1])
				}
			}
		}
	}
	slices.Sort(reached)
	return reached
}

// slowVoltages solves the equations of the nodes to which b leads, with b at 0; others are nil.
func slowVoltages(x testNet, a, b int) []*big.Rat {
	part := slowReached(x.tapes, b)
	v := make([]*big.Rat, x.nodes)
	rows := make([][]*big.Rat, len(part))
	for i, node := range part {
		rows[i] = slowRow(x.tapes, part, node, a, b)
	}
	solve(rows)
	for i, node := range part {
		v[node] = rows[i][len(part)]
	}
	return v
}

// slowRow is a node's equation: what flows out through tapes is what comes in from outside.
func slowRow(l []api.Tape, part []int, node, a, b int) []*big.Rat {
	row := make([]*big.Rat, len(part)+1)
	for j := range row {
		row[j] = new(big.Rat)
	}
	if node == b {
		row[slices.Index(part, b)] = frac(1, 1)
		return row
	}
	for _, t := range l {
		if other := t.A + t.B - node; t.A == node || t.B == node {
			at, to := row[slices.Index(part, node)], row[slices.Index(part, other)]
			at.Add(at, frac(1, t.Ohms))
			to.Sub(to, frac(1, t.Ohms))
		}
	}
	if node == a {
		row[len(part)] = frac(1, 1)
	}
	return row
}

// solve solves as many equations as there are unknowns; the last column becomes the solution.
func solve(rows [][]*big.Rat) {
	for i := range rows {
		pivot := i
		for rows[pivot][i].Sign() == 0 {
			pivot++
		}
		rows[i], rows[pivot] = rows[pivot], rows[i]
		by := new(big.Rat).Inv(rows[i][i])
		for j := range rows[i] {
			rows[i][j].Mul(rows[i][j], by)
		}
		for k := range rows {
			if k == i {
				continue
			}
			by := new(big.Rat).Set(rows[k][i])
			for j := range rows[k] {
				rows[k][j].Sub(rows[k][j], new(big.Rat).Mul(by, rows[i][j]))
			}
		}
	}
}

// wantNumber checks a number and its error; behind an error the number is 0.
func wantNumber(t *testing.T, what string, got int, e api.Errno, want int, wantE api.Errno) {
	t.Helper()
	if got != want || e != wantE {
		t.Errorf("%s = %d, error %d, want %d, error %d", what, got, e, want, wantE)
	}
}

func wantBool(t *testing.T, what string, got bool, e api.Errno, want bool, wantE api.Errno) {
	t.Helper()
	if got != want || e != wantE {
		t.Errorf("%s = %v, error %d, want %v, error %d", what, got, e, want, wantE)
	}
}

func wantRatio(t *testing.T, what string, got api.Ratio, e api.Errno, want api.Ratio, wantE api.Errno) {
	t.Helper()
	if got != want || e != wantE {
		t.Errorf("%s = %v, error %d, want %v, error %d", what, got, e, want, wantE)
	}
}

func wantList[T comparable](t *testing.T, what string, got []T, e api.Errno, want []T, wantE api.Errno) {
	t.Helper()
	if !slices.Equal(got, want) || e != wantE {
		t.Errorf("%s = %v, error %d, want %v, error %d", what, got, e, want, wantE)
	}
}

// The calls below are those whose errors a test does not expect.

func mustJoined(t *testing.T, x testNet, a, b int) bool {
	t.Helper()
	ok, e := tape.Joined(x.nodes, x.tapes, a, b)
	if e != api.OK {
		t.Fatalf("Joined(%v, %d, %d): error %d", x, a, b, e)
	}
	return ok
}

func mustResistance(t *testing.T, x testNet, a, b int) api.Ratio {
	t.Helper()
	r, e := tape.Resistance(x.nodes, x.tapes, a, b)
	if e != api.OK {
		t.Fatalf("Resistance(%v, %d, %d): error %d", x, a, b, e)
	}
	return r
}

func mustCurrents(t *testing.T, x testNet, a, b int) []api.Ratio {
	t.Helper()
	l, e := tape.Currents(x.nodes, x.tapes, a, b)
	if e != api.OK {
		t.Fatalf("Currents(%v, %d, %d): error %d", x, a, b, e)
	}
	return l
}

func mustTrees(t *testing.T, x testNet) int {
	t.Helper()
	n, e := tape.Trees(x.nodes, x.tapes)
	if e != api.OK {
		t.Fatalf("Trees(%v): error %d", x, e)
	}
	return n
}

func mustWithout(t *testing.T, x testNet, i int) testNet {
	t.Helper()
	l, e := tape.Without(x.nodes, x.tapes, i)
	if e != api.OK {
		t.Fatalf("Without(%v, %d): error %d", x, i, e)
	}
	return testNet{x.nodes, l}
}

func mustMerged(t *testing.T, x testNet, a, b int) testNet {
	t.Helper()
	n, l, e := tape.Merged(x.nodes, x.tapes, a, b)
	if e != api.OK {
		t.Fatalf("Merged(%v, %d, %d): error %d", x, a, b, e)
	}
	return testNet{n, l}
}
