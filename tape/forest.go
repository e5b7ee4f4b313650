package tape

import (
	"iter"
	"math/bits"

	"steeplejack/api"
)

// set is a set of tapes: the bit of each is its index.
type set uint

func (s set) has(i int) bool { return s>>i&1 == 1 }

func (s set) size() int { return bits.OnesCount(uint(s)) }

// all returns the set of all tapes.
func all(l []api.Tape) set { return set(1)<<len(l) - 1 }

// roots holds for each node the least one to which it is joined.
type roots [api.MaxNodes]int

// join returns the roots of the nodes that a set of tapes joins, and how many of its tapes join nodes that those before them do not.
func join(l []api.Tape, s set) (r roots, needed int) {
	for x := range r {
		r[x] = x
	}
	for i, t := range l {
		if s.has(i) && r[t.A] != r[t.B] {
			r = r.merged(t.A, t.B)
			needed++
		}
	}
	return r, needed
}

// merged returns the roots if two nodes, and so all that are joined to them, are joined.
func (r roots) merged(a, b int) roots {
	root, other := min(r[a], r[b]), max(r[a], r[b])
	for x := range r {
		if r[x] == other {
			r[x] = root
		}
	}
	return r
}

// sets yields all sets of tapes.
func sets(l []api.Tape) iter.Seq[set] {
	return func(yield func(set) bool) {
		for s := range all(l) + 1 {
			if !yield(s) {
				return
			}
		}
	}
}

// forests yields the sets of a size that have no circle, each with the roots of the nodes that it joins.
func forests(l []api.Tape, size int) iter.Seq2[set, roots] {
	return func(yield func(set, roots) bool) {
		for s := range sets(l) {
			if s.size() != size {
				continue
			}
			r, needed := join(l, s)
			if needed == size && !yield(s, r) {
				return
			}
		}
	}
}
