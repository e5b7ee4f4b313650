package wind

import (
	"iter"

	"steeplejack/api"
)

const (
	maxCasts  = 200
	maxMinute = 100_000 // at which a forecast ends at the latest
	maxWindow = 10_000  // minutes
)

// validCast reports whether a cast may be in a forecast, behind one that ends at a minute.
func validCast(x api.Cast, last int) bool {
	return last <= x.From && x.From < x.To && x.To <= maxMinute && 0 <= x.Lo && x.Lo <= x.Hi && x.Hi <= maxGust
}

// ValidCasts reports whether a forecast is valid.
func ValidCasts(c []api.Cast) bool {
	last := 0
	for _, x := range c {
		if !validCast(x, last) {
			return false
		}
		last = x.To
	}
	return len(c) <= maxCasts
}

// whole yields the casts of a forecast, and between and behind them casts of any gust, so that each minute has one.
func whole(c []api.Cast) iter.Seq[api.Cast] {
	return func(yield func(api.Cast) bool) {
		last := 0
		for _, x := range c {
			if last < x.From && !yield(anyGust(last, x.From)) || !yield(x) {
				return
			}
			last = x.To
		}
		if last < maxMinute {
			yield(anyGust(last, maxMinute))
		}
	}
}

func anyGust(from, to int) api.Cast { return api.Cast{From: from, To: to, Lo: 0, Hi: maxGust} }

// window returns the first minute of n minutes in a row from `from` to `to` - 1 whose casts are all as asked.
func window(c []api.Cast, mark, n, from, to int, asked func(x api.Cast) bool) (int, api.Errno) {
	switch {
	case !ValidCasts(c):
		return 0, api.ErrInvalid
	case !between(mark, 1, maxGust) || !between(n, 1, maxWindow) || !within(from, to, maxMinute):
		return 0, api.ErrRange
	}
	begin := from
	for x := range whole(c) {
		if !asked(x) {
			begin = max(begin, x.To)
		} else if min(x.To, to)-begin >= n {
			return begin, api.OK
		}
	}
	return 0, api.ErrNone
}

// Sure returns the first minute at which a window of n minutes is sure.
func Sure(c []api.Cast, mark, n, from, to int) (int, api.Errno) {
	// No mark is above maxGust, so that minutes without a cast are not sure.
	return window(c, mark, n, from, to, func(x api.Cast) bool { return x.Hi < mark })
}

// Maybe returns the first minute at which a window of n minutes may be.
func Maybe(c []api.Cast, mark, n, from, to int) (int, api.Errno) {
	return window(c, mark, n, from, to, func(x api.Cast) bool { return x.Lo < mark })
}

// goesOn reports whether a cast goes on in the next one.
func goesOn(x, next api.Cast) bool {
	return x.To == next.From && x.Lo == next.Lo && x.Hi == next.Hi
}

// Merged returns a forecast in which neighbours that touch and say the same are one.
func Merged(c []api.Cast) ([]api.Cast, api.Errno) {
	if !ValidCasts(c) {
		return nil, api.ErrInvalid
	}
	var merged []api.Cast
	for _, x := range c {
		if n := len(merged); n > 0 && goesOn(merged[n-1], x) {
			merged[n-1].To = x.To
			continue
		}
		merged = append(merged, x)
	}
	return merged, api.OK
}

// Kept returns the minutes with a cast whose readings are not as it says.
func Kept(c []api.Cast, l []int) ([]int, api.Errno) {
	if !ValidCasts(c) || !ValidGusts(l) {
		return nil, api.ErrInvalid
	}
	var broken []int
	for _, x := range c {
		for minute := x.From; minute < min(x.To, len(l)); minute++ {
			if gust := l[minute]; gust != noReading && !between(gust, x.Lo, x.Hi) {
				broken = append(broken, minute)
			}
		}
	}
	return broken, api.OK
}
