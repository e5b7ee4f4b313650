package tape_test

import (
	"slices"
	"testing"

	"steeplejack/api"
	"steeplejack/tape"
)

// callAll makes all calls of the package.
func callAll(nodes int, l []api.Tape, a, b int, y api.Tape, currents []api.Ratio, r []api.Reading) {
	tape.Valid(nodes, l)
	tape.Joined(nodes, l, a, b)
	tape.Parts(nodes, l)
	tape.Resistance(nodes, l, a, b)
	tape.Currents(nodes, l, a, b)
	tape.Flows(nodes, l, a, b, currents)
	tape.Bridges(nodes, l)
	tape.Trees(nodes, l)
	tape.Without(nodes, l, a)
	tape.Added(nodes, l, y)
	tape.Merged(nodes, l, a, b)
	tape.Fits(nodes, l, r)
	tape.Broken(nodes, l, r)
	tape.Weakest(nodes, l, a, b)
	tape.Parse(tape.Format(nodes, l))
}

// R1, P1 and P5.1: no call panics, whatever its numbers.
func TestWildNumbers(t *testing.T) {
	for _, a := range wild {
		for _, b := range wild {
			x := rat(a, b)
			callAll(3, ring(), a, b, api.Tape{A: a, B: b, Ohms: 1}, []api.Ratio{x, x, x}, []api.Reading{exactly(a, b, x), exactly(0, 1, x)})
			callAll(3, ring(), 0, 1, api.Tape{A: 0, B: b, Ohms: a}, []api.Ratio{x, x, x}, []api.Reading{exactly(0, 1, x)})
			callAll(2, nil, a, b, api.Tape{}, nil, nil)
			for _, c := range wild {
				callAll(c, tapes(a, b, c), a, b, api.Tape{A: a, B: b, Ohms: c}, []api.Ratio{x}, []api.Reading{reading(a, b, x, rat(b, c))})
				callAll(6, tapes(0, 1, 1, a, b, c), 0, c, api.Tape{A: a, B: b, Ohms: c}, []api.Ratio{x, x}, []api.Reading{reading(0, c, x, rat(b, c))})
			}
		}
	}
}

// R4 and P5.1: neither arguments nor their spare capacity change.
func TestArgumentsStay(t *testing.T) {
	makeTapes := func() []api.Tape { return append(ring(), tapes(0, 1, 50, 0, 2, 51)...) }
	makeCurrents := func() []api.Ratio { return rats(10, 12, -2, 12, 2, 12, 7, 7) }
	makeReadings := func() []api.Reading {
		return []api.Reading{exactly(0, 1, rat(10, 2)), exactly(0, 0, rat(0, 7)), exactly(0, 1, rat(6, 7))}
	}
	l, currents, r := makeTapes(), makeCurrents(), makeReadings()
	for a := range 3 {
		for b := range 3 {
			callAll(3, l[:3], a, b, api.Tape{A: 0, B: 1, Ohms: 5}, currents[:3], r[:2])
		}
	}
	if !slices.Equal(l, makeTapes()) || !slices.Equal(currents, makeCurrents()) || !slices.Equal(r, makeReadings()) {
		t.Errorf("arguments change: %v, %v, %v", l, currents, r)
	}
}

// checkNew checks that a call's result is new memory each time, and shares none with the tapes.
func checkNew[T comparable](t *testing.T, name string, l []api.Tape, call func() []T) {
	t.Helper()
	kept := slices.Clone(l[:cap(l)])
	first := call()
	want := slices.Clone(first)
	first = first[:cap(first)]
	var zero T
	for i := range first {
		first[i] = zero
	}
	if len(want) == 0 || !slices.Equal(call(), want) || !slices.Equal(l[:cap(l)], kept) {
		t.Errorf("%s: results share memory", name)
	}
}

// R4 and P5.1: results are new memory.
func TestNewMemory(t *testing.T) {
	l := append(ring(), tapes(2, 3, 50, 0, 2, 51)...)[:4]
	checkNew(t, "Currents", l, func() []api.Ratio { c, _ := tape.Currents(4, l, 0, 3); return c })
	checkNew(t, "Bridges", l, func() []int { b, _ := tape.Bridges(4, l); return b })
	checkNew(t, "Without", l, func() []api.Tape { w, _ := tape.Without(4, l, 3); return w })
	checkNew(t, "Without the first", l, func() []api.Tape { w, _ := tape.Without(4, l, 0); return w })
	checkNew(t, "Added", l, func() []api.Tape { a, _ := tape.Added(4, l, api.Tape{A: 0, B: 1, Ohms: 9}); return a })
	checkNew(t, "Merged", l, func() []api.Tape { _, m, _ := tape.Merged(4, l, 2, 3); return m })
	checkNew(t, "Merged to the end", l, func() []api.Tape { _, m, _ := tape.Merged(5, l, 3, 4); return m })
	checkNew(t, "Broken", l, func() []int {
		b, _ := tape.Broken(4, l, []api.Reading{exactly(0, 1, rat(1, 1))})
		return b
	})
	checkNew(t, "Parse", l, func() []api.Tape { _, p, _, _ := tape.Parse("nodes 2\ntape 0 1 5\n"); return p })
}

// R4: the sets of Parts share no memory, not even spare capacity.
func TestPartsApart(t *testing.T) {
	parts, _ := tape.Parts(6, twoParts())
	for i, part := range parts {
		spare := part[len(part):cap(part)]
		for j := range spare {
			spare[j] = -7
		}
		for j := range part {
			part[j] = 10 * i
		}
	}
	if !slices.EqualFunc(parts, [][]int{{0, 0, 0}, {10, 10}, {20}}, slices.Equal) {
		t.Errorf("parts share memory: %v", parts)
	}
	again, _ := tape.Parts(6, twoParts())
	if !slices.EqualFunc(again, [][]int{{0, 2, 3}, {1, 4}, {5}}, slices.Equal) {
		t.Errorf("Parts = %v", again)
	}
}

// R4: nil and empty are alike.
func TestNilAndEmpty(t *testing.T) {
	for _, l := range [][]api.Tape{nil, {}} {
		if !tape.Valid(1, l) || tape.Format(1, l) != "nodes 1\n" || !tape.Flows(1, l, 0, 0, nil) || !tape.Flows(1, l, 0, 0, []api.Ratio{}) {
			t.Errorf("a net of %#v", l)
		}
		got, e := tape.Added(2, l, api.Tape{A: 0, B: 1, Ohms: 1})
		wantList(t, "Added", got, e, tapes(0, 1, 1), api.OK)
		ok, e := tape.Fits(1, l, []api.Reading{})
		wantBool(t, "Fits", ok, e, true, api.OK)
		n, e := tape.Trees(1, l)
		wantNumber(t, "Trees", n, e, 1, api.OK)
	}
}

// R7: the same call gives the same result.
func TestSameAgain(t *testing.T) {
	text := tape.Format(6, twoParts())
	for range 50 {
		n, l, _, e := tape.Parse(text)
		if n != 6 || !slices.Equal(l, twoParts()) || e != api.OK {
			t.Fatal("another result of Parse")
		}
		parts, _ := tape.Parts(6, l)
		if !slices.EqualFunc(parts, [][]int{{0, 2, 3}, {1, 4}, {5}}, slices.Equal) {
			t.Fatal("another result of Parts")
		}
	}
}
