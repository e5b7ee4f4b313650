package wind

import "steeplejack/api"

// Stops returns the stops.
func Stops(r api.Rule, l []int) ([]api.Span, api.Errno) {
	w := watch{r, l}
	if !w.valid() {
		return nil, api.ErrInvalid
	}
	return spans(w.where(false)), api.OK
}

// Goes reports whether work goes in a minute.
func Goes(r api.Rule, l []int, minute int) (bool, api.Errno) {
	w := watch{r, l}
	switch {
	case !w.valid():
		return false, api.ErrInvalid
	case !between(minute, 0, len(l)-1):
		return false, api.ErrRange
	}
	return w.count(minute, minute+1) > 0, api.OK
}

// Minutes returns in how many of the minutes from `from` to `to` - 1 work goes.
func Minutes(r api.Rule, l []int, from, to int) (int, api.Errno) {
	w := watch{r, l}
	switch {
	case !w.valid():
		return 0, api.ErrInvalid
	case !within(from, to, len(l)):
		return 0, api.ErrRange
	}
	return w.count(from, to), api.OK
}

// Longest returns the first one of the longest spans in which work goes.
func Longest(r api.Rule, l []int) (api.Span, api.Errno) {
	w := watch{r, l}
	if !w.valid() {
		return api.Span{}, api.ErrInvalid
	}
	var longest api.Span
	for _, x := range spans(w.where(true)) {
		if x.To-x.From > longest.To-longest.From {
			longest = x
		}
	}
	if longest.To == 0 {
		return api.Span{}, api.ErrNone
	}
	return longest, api.OK
}

// Resumes returns how many calm minutes must follow for stopped work to go again.
func Resumes(r api.Rule, l []int) (int, api.Errno) {
	w := watch{r, l}
	if !w.valid() {
		return 0, api.ErrInvalid
	}
	waits := 0
	for _, x := range w.minutes() {
		waits = x.after
	}
	if waits == 0 {
		return 0, api.ErrState
	}
	return waits, api.OK
}

// Strictest returns the first one of the rules by which work goes for the fewest minutes.
func Strictest(l []int, rules []api.Rule) (int, api.Errno) {
	if !ValidGusts(l) {
		return 0, api.ErrInvalid
	}
	for _, r := range rules {
		if !ValidRule(r) {
			return 0, api.ErrInvalid
		}
	}
	if !between(len(rules), 1, maxRules) {
		return 0, api.ErrRange
	}
	strictest, fewest := 0, len(l)
	for i, r := range rules {
		if n := (watch{r, l}).count(0, len(l)); n < fewest {
			strictest, fewest = i, n
		}
	}
	return strictest, api.OK
}
