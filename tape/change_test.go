package tape_test

import (
	"math"
	"slices"
	"testing"

	"steeplejack/api"
	"steeplejack/tape"
)

// 5.3: Without.
func TestWithout(t *testing.T) {
	for i, want := range [][]api.Tape{tapes(1, 2, 2, 0, 2, 3), tapes(0, 1, 1, 0, 2, 3), tapes(0, 1, 1, 1, 2, 2)} {
		got, e := tape.Without(3, ring(), i)
		wantList(t, "Without", got, e, want, api.OK)
	}
	got, e := tape.Without(2, tapes(0, 1, 9), 0)
	wantList(t, "Without the only one", got, e, nil, api.OK)
	for _, i := range notNodes { // there are just as many tapes as nodes
		got, e := tape.Without(3, ring(), i)
		wantList(t, "Without no tape", got, e, nil, api.ErrRange)
	}
	got, e = tape.Without(3, nil, 0)
	wantList(t, "Without one of none", got, e, nil, api.ErrRange)
	for _, x := range wrongNets() {
		for _, i := range []int{0, -1, 10, math.MaxInt} {
			got, e := tape.Without(x.nodes, x.tapes, i)
			wantList(t, "Without", got, e, nil, api.ErrInvalid)
		}
	}
}

// 5.3: Added.
func TestAdded(t *testing.T) {
	for _, c := range []struct {
		name  string
		nodes int
		l     []api.Tape
		t     api.Tape
		want  []api.Tape
		e     api.Errno
	}{
		{"to a ring", 3, ring(), api.Tape{A: 0, B: 1, Ohms: 60}, append(ring(), tapes(0, 1, 60)...), api.OK},
		{"to none", 6, nil, api.Tape{A: 4, B: 5, Ohms: 1}, tapes(4, 5, 1), api.OK},
		{"the last of the most", 2, sameTapes(9, 0, 1, 5), api.Tape{A: 0, B: 1, Ohms: 5}, sameTapes(10, 0, 1, 5), api.OK},
		{"too many", 2, sameTapes(10, 0, 1, 5), api.Tape{A: 0, B: 1, Ohms: 5}, nil, api.ErrLimit},
		{"a wrong one too many", 2, sameTapes(10, 0, 1, 5), api.Tape{A: 0, B: 1, Ohms: 61}, nil, api.ErrInvalid},
		{"to a net that has too many", 2, sameTapes(11, 0, 1, 5), api.Tape{A: 0, B: 1, Ohms: 5}, nil, api.ErrInvalid},
		{"a node too great", 3, ring(), api.Tape{A: 0, B: 3, Ohms: 1}, nil, api.ErrInvalid},
		{"a node below 0", 3, ring(), api.Tape{A: -1, B: 1, Ohms: 1}, nil, api.ErrInvalid},
		{"the wrong way", 3, ring(), api.Tape{A: 2, B: 1, Ohms: 1}, nil, api.ErrInvalid},
		{"from a node to itself", 3, ring(), api.Tape{A: 1, B: 1, Ohms: 1}, nil, api.ErrInvalid},
		{"no Ohms", 3, ring(), api.Tape{A: 0, B: 1, Ohms: 0}, nil, api.ErrInvalid},
		{"too many Ohms", 3, ring(), api.Tape{A: 0, B: 1, Ohms: 61}, nil, api.ErrInvalid},
		{"to a single node", 1, nil, api.Tape{A: 0, B: 1, Ohms: 1}, nil, api.ErrInvalid},
	} {
		got, e := tape.Added(c.nodes, c.l, c.t)
		wantList(t, c.name+": Added", got, e, c.want, c.e)
	}
	for _, x := range wrongNets() {
		got, e := tape.Added(x.nodes, x.tapes, api.Tape{A: 0, B: 1, Ohms: 1})
		wantList(t, "Added", got, e, nil, api.ErrInvalid)
	}
}

// 5.3: Merged.
func TestMerged(t *testing.T) {
	for _, c := range []struct {
		name  string
		nodes int
		l     []api.Tape
		a, b  int
		want  []api.Tape
	}{
		{"two of a ring", 3, ring(), 0, 1, tapes(0, 1, 2, 0, 1, 3)},
		{"the last two of a ring", 3, ring(), 1, 2, tapes(0, 1, 1, 0, 1, 3)},
		{"ends that are exchanged", 3, ring(), 0, 2, tapes(0, 1, 1, 0, 1, 2)},
		{"the only two", 2, sameTapes(10, 0, 1, 4), 0, 1, nil},
		{"two without tapes", 2, nil, 0, 1, nil},
		{"greater ones one less", 6, tapes(4, 5, 1, 0, 5, 2, 1, 3, 3, 2, 3, 4, 0, 2, 5), 1, 3, tapes(3, 4, 1, 0, 4, 2, 1, 2, 4, 0, 2, 5)},
		{"the first and the last", 6, tapes(4, 5, 1, 0, 5, 2, 1, 3, 3, 0, 1, 6), 0, 5, tapes(0, 4, 1, 1, 3, 3, 0, 1, 6)},
		{"nodes of two parts", 6, twoParts(), 2, 4, tapes(0, 2, 2, 1, 2, 5, 2, 3, 4, 0, 3, 6, 1, 2, 5)},
	} {
		for _, ends := range [][2]int{{c.a, c.b}, {c.b, c.a}} {
			n, l, e := tape.Merged(c.nodes, c.l, ends[0], ends[1])
			if n != c.nodes-1 || !slices.Equal(l, c.want) || e != api.OK {
				t.Errorf("%s: Merged = %d, %v, error %d, want %v", c.name, n, l, e, c.want)
			}
		}
	}
}

// 5.3: Merged, of one node, of nodes that there are not, of a net that is not valid.
func TestMergedErrors(t *testing.T) {
	check := func(x testNet, a, b int, want api.Errno) {
		t.Helper()
		n, l, e := tape.Merged(x.nodes, x.tapes, a, b)
		if n != 0 || len(l) > 0 || e != want {
			t.Errorf("Merged(%v, %d, %d) = %d, %v, error %d, want error %d", x, a, b, n, l, e, want)
		}
	}
	for _, n := range notNodes {
		check(testNet{3, ring()}, n, 0, api.ErrRange)
		check(testNet{3, ring()}, 0, n, api.ErrRange)
		check(testNet{3, ring()}, n, n, api.ErrRange)
	}
	for n := range 3 {
		check(testNet{3, ring()}, n, n, api.ErrState)
	}
	check(testNet{1, nil}, 0, 0, api.ErrState)
	check(testNet{1, nil}, 0, 1, api.ErrRange)
	for _, x := range wrongNets() {
		check(x, 0, 1, api.ErrInvalid)
		check(x, 0, 0, api.ErrInvalid)
		check(x, -1, 7, api.ErrInvalid)
	}
}

// 5.3: changed nets are valid.
func TestChangedNets(t *testing.T) {
	r := random()
	for range 1000 {
		x := randomNet(r, 10)
		for i := range x.tapes {
			y := mustWithout(t, x, i)
			if !tape.Valid(y.nodes, y.tapes) || !slices.Equal(slices.Insert(slices.Clone(y.tapes), i, x.tapes[i]), x.tapes) {
				t.Fatalf("Without(%v, %d) = %v", x, i, y)
			}
		}
		n := x.randomNodes(r, 2)
		if n[0] == n[1] {
			continue
		}
		y := mustMerged(t, x, n[0], n[1])
		between := 0
		for _, z := range x.tapes {
			if z.A == min(n[0], n[1]) && z.B == max(n[0], n[1]) {
				between++
			}
		}
		if !tape.Valid(y.nodes, y.tapes) || len(y.tapes) != len(x.tapes)-between {
			t.Fatalf("Merged(%v, %v) = %v", x, n, y)
		}
	}
}
