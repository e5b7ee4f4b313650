package fell

import (
	"iter"
	"math/bits"

	"steeplejack/api"
)

// set is a set of props. The first prop has the highest bit: so of two sets of one size, that whose list comes first is the greater number.
type set uint

func one(i int) set { return 1 << (api.MaxProps - 1 - i) }

// whole returns the set of the first n props.
func whole(n int) set { return (1<<n - 1) << (api.MaxProps - n) }

func (s set) size() int { return bits.OnesCount(uint(s)) }

// props yields the indexes of the props of a set, in ascending order.
func (s set) props() iter.Seq[int] {
	return func(yield func(int) bool) {
		for i := range api.MaxProps {
			if s&one(i) != 0 && !yield(i) {
				return
			}
		}
	}
}

// subsets yields the subsets of a size, in the order of their lists.
func (s set) subsets(size int) iter.Seq[set] {
	return func(yield func(set) bool) {
		for sub := s; ; sub = (sub - 1) & s { // the next smaller number without other bits
			if sub.size() == size && !yield(sub) || sub == 0 {
				return
			}
		}
	}
}
