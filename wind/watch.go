package wind

import (
	"iter"

	"steeplejack/api"
)

// rule has the two states of work as methods: each takes for how many calm minutes work waits, and the gust of the next minute, and returns for how many it waits after this minute. Work that waits for none goes.
type rule api.Rule

func (r rule) going(waits, gust int) int {
	if gust == noReading || gust >= r.Stop {
		return r.Calm
	}
	return waits
}

func (r rule) stopped(waits, gust int) int {
	if gust == noReading || gust >= r.Go {
		return r.Calm
	}
	return waits - 1
}

// states keeps the two states of a rule.
type states struct {
	going, stopped func(waits, gust int) int
}

func statesOf(r api.Rule) states {
	x := rule(r)
	return states{going: x.going, stopped: x.stopped}
}

// step is a minute: for how many calm minutes work waits before and after it.
type step struct{ before, after int }

func (s states) step(waits, gust int) step {
	if waits == 0 {
		return step{waits, s.going(waits, gust)}
	}
	return step{waits, s.stopped(waits, gust)}
}

// goes reports whether work goes in the minute: one after which it would go again is still one of the stop.
func (s step) goes() bool { return s.before == 0 && s.after == 0 }

// watch is a rule with the gusts of which it is asked.
type watch struct {
	api.Rule
	gusts []int
}

func (w watch) valid() bool { return ValidGusts(w.gusts) && ValidRule(w.Rule) }

// minutes yields each minute with its step.
func (w watch) minutes() iter.Seq2[int, step] {
	states := statesOf(w.Rule)
	return func(yield func(int, step) bool) {
		waits := 0
		for minute, gust := range w.gusts {
			x := states.step(waits, gust)
			if !yield(minute, x) {
				return
			}
			waits = x.after
		}
	}
}

// where yields the minutes in which work goes, or those in which it does not.
func (w watch) where(goes bool) iter.Seq[int] {
	return func(yield func(int) bool) {
		for minute, x := range w.minutes() {
			if x.goes() == goes && !yield(minute) {
				return
			}
		}
	}
}

// count returns in how many of some minutes work goes.
func (w watch) count(from, to int) int {
	n := 0
	for minute := range w.where(true) {
		if between(minute, from, to-1) {
			n++
		}
	}
	return n
}

// spans returns the spans, as long as can be, of minutes in ascending order.
func spans(minutes iter.Seq[int]) []api.Span {
	var l []api.Span
	for minute := range minutes {
		if n := len(l); n > 0 && l[n-1].To == minute {
			l[n-1].To++
			continue
		}
		l = append(l, api.Span{From: minute, To: minute + 1})
	}
	return l
}
