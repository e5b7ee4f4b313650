package ladder

import (
	"iter"
	"slices"
)

// place is where a dog or a ladder might be.
type place struct {
	height int
	usable bool
}

// route is how one climbs from place to place: dogs take joints, and ladders take dogs, by rules that differ in their numbers only.
type route struct {
	places []place // from below
	first  int     // the first place taken is at most so high
	step   int     // each other one is at most so far above the one before
	last   int     // the last one is at least so high
}

// upTo yields the usable places from an index on that are at most at a height.
func (r route) upTo(from, height int) iter.Seq[int] {
	return func(yield func(int) bool) {
		for i := from; i < len(r.places) && r.places[i].height <= height; i++ {
			if r.places[i].usable && !yield(i) {
				return
			}
		}
	}
}

// reachFrom returns the height up to which one can go on from a place.
func (r route) reachFrom(i int) int { return r.places[i].height + r.step }

// right reports whether a list of places is one that the rules allow.
func (r route) right(list []int) bool {
	from, height := 0, r.first
	for _, i := range list {
		if !between(i, from, len(r.places)-1) || !r.places[i].usable || r.places[i].height > height {
			return false
		}
		from, height = i+1, r.reachFrom(i)
	}
	return len(list) > 0 && r.places[from-1].height >= r.last
}

// highest returns the height of the highest place to which one can come, 0 if there is no first one.
func (r route) highest() int {
	highest, height := 0, r.first
	for i, p := range r.places {
		if p.usable && p.height <= height {
			highest, height = p.height, max(height, r.reachFrom(i))
		}
	}
	return highest
}

// passable reports whether there is a right list.
func (r route) passable() bool {
	highest := r.highest()
	return highest > 0 && highest >= r.last
}

// counts returns how many places it takes at least from each one on; those from which none leads on are left out.
func (r route) counts() map[int]int {
	counts := map[int]int{}
	for i, p := range slices.Backward(r.places) {
		if p.height >= r.last {
			counts[i] = 1
		} else if n := r.least(counts, i+1, r.reachFrom(i)); n > 0 {
			counts[i] = n + 1
		}
	}
	return counts
}

// least returns the least count of the places that upTo yields, 0 if none has one.
func (r route) least(counts map[int]int, from, height int) int {
	least := 0
	for i := range r.upTo(from, height) {
		if n, ok := counts[i]; ok && (least == 0 || n < least) {
			least = n
		}
	}
	return least
}

// lists yields in order all lists of n places that begin with one that upTo yields, keep the rules, and have from each place on no more than its count.
// There may be very many, but the first comes soon: each place with the right count leads to one.
func (r route) lists(counts map[int]int, from, height, n int) iter.Seq[[]int] {
	return func(yield func([]int) bool) {
		for i := range r.upTo(from, height) {
			if counts[i] != n {
				continue
			}
			for rest := range r.rests(counts, i, n-1) {
				if !yield(append([]int{i}, rest...)) {
					return
				}
			}
		}
	}
}

// rests yields the lists of n places with which a list goes on from a place.
func (r route) rests(counts map[int]int, i, n int) iter.Seq[[]int] {
	if n == 0 {
		return slices.Values([][]int{nil})
	}
	return r.lists(counts, i+1, r.reachFrom(i), n)
}

// fewest returns the first one of the right lists with the fewest places; it is empty if there is no right list.
func (r route) fewest() []int {
	counts := r.counts()
	if n := r.least(counts, 0, r.first); n > 0 {
		for list := range r.lists(counts, 0, r.first, n) {
			return list
		}
	}
	return nil
}
