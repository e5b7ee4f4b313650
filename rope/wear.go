package rope

import (
	"slices"
	"sort"

	"steeplejack/api"
)

const (
	thousandths = 1000
	perUse      = 100 // thousandths that a use with a load of the rope's strength takes
	safety      = 5   // how many times as strong as its load a rope must be
	maxRopes    = 20  // of Weakest
)

// worn is a rope with its uses.
type worn struct {
	api.Rope
	uses []api.Use
}

func (w worn) valid() bool { return ValidRope(w.Rope) && ValidUses(w.uses) }

// check returns the error of a rope with its uses that is to bear a load on a day.
func (w worn) check(day, load int) api.Errno {
	switch {
	case !w.valid():
		return api.ErrInvalid
	case !validDay(day) || !validLoad(load):
		return api.ErrRange
	}
	return api.OK
}

// withFirst returns the rope with its first n uses alone.
func (w worn) withFirst(n int) worn { return worn{w.Rope, w.uses[:n:n]} }

// upTo returns the rope with its uses up to and including a day.
func (w worn) upTo(day int) worn {
	return w.withFirst(sort.Search(len(w.uses), func(i int) bool { return w.uses[i].Day > day }))
}

// left returns how many thousandths are left on a day.
func (w worn) left(day int) int {
	lost := w.Daily * day
	for _, x := range w.upTo(day).uses {
		lost += up(x.Load*perUse, w.Strength)
	}
	return max(thousandths-lost, 0)
}

// safe returns the greatest load that the rope may bear on a day, and whether it may bear any.
func (w worn) safe(day int) (load int, ok bool) {
	left := w.left(day)
	if left < w.Least {
		return 0, false
	}
	return w.Strength * left / (thousandths * safety), true
}

func (w worn) may(day, load int) bool {
	safe, ok := w.safe(day)
	return ok && load <= safe
}

func validDay(day int) bool { return between(day, 0, api.MaxDay) }

// ValidRope reports whether a rope is valid.
func ValidRope(r api.Rope) bool {
	return between(r.Strength, 1, api.MaxLoad) && between(r.Daily, 0, thousandths) && between(r.Least, 1, thousandths)
}

// ValidUses reports whether uses are valid.
func ValidUses(u []api.Use) bool {
	for i, x := range u {
		if !follows(u[:i], x) {
			return false
		}
	}
	return true
}

// follows reports whether a use may stand behind valid ones.
func follows(u []api.Use, x api.Use) bool {
	return len(u) < api.MaxUses && between(x.Day, last(u), api.MaxDay) && validLoad(x.Load)
}

// last returns the day of the last use, 0 if there is none.
func last(u []api.Use) int {
	if len(u) == 0 {
		return 0
	}
	return u[len(u)-1].Day
}

// Left returns how many thousandths are left on a day.
func Left(r api.Rope, u []api.Use, day int) (int, api.Errno) {
	w := worn{r, u}
	if e := w.check(day, 0); e != api.OK {
		return 0, e
	}
	return w.left(day), api.OK
}

// May reports whether a rope may bear a load on a day.
func May(r api.Rope, u []api.Use, day, load int) (bool, api.Errno) {
	w := worn{r, u}
	if e := w.check(day, load); e != api.OK {
		return false, e
	}
	return w.may(day, load), api.OK
}

// Safe returns the greatest load that a rope may bear on a day.
func Safe(r api.Rope, u []api.Use, day int) (int, api.Errno) {
	w := worn{r, u}
	if e := w.check(day, 0); e != api.OK {
		return 0, e
	}
	load, ok := w.safe(day)
	if !ok {
		return 0, api.ErrState
	}
	return load, api.OK
}

// Retires returns the first day on which too little of a rope is left.
func Retires(r api.Rope, u []api.Use) (int, api.Errno) {
	w := worn{r, u}
	if !w.valid() {
		return 0, api.ErrInvalid
	}
	// What is left never grows, so the day can be searched for.
	day := sort.Search(api.MaxDay+1, func(day int) bool { return w.left(day) < w.Least })
	if !validDay(day) {
		return 0, api.ErrNone
	}
	return day, api.OK
}

// Used returns the uses of a rope with one more at the end.
func Used(r api.Rope, u []api.Use, day, load int) ([]api.Use, api.Errno) {
	w := worn{r, u}
	if e := w.check(day, load); e != api.OK {
		return nil, e
	}
	switch {
	case day < last(u):
		return nil, api.ErrState
	case len(u) == api.MaxUses:
		return nil, api.ErrLimit
	case !w.may(day, load):
		return nil, api.ErrNone
	}
	return slices.Concat(u, []api.Use{{Day: day, Load: load}}), api.OK
}

// Wrong returns the indexes of the uses that a rope could not bear.
func Wrong(r api.Rope, u []api.Use) ([]int, api.Errno) {
	w := worn{r, u}
	if !w.valid() {
		return nil, api.ErrInvalid
	}
	var out []int
	for i, x := range u {
		if !w.withFirst(i).may(x.Day, x.Load) {
			out = append(out, i)
		}
	}
	return out, api.OK
}

// Weakest returns the index of the first rope of those that may bear the least load on a day.
func Weakest(r []api.Rope, u [][]api.Use, day int) (int, api.Errno) {
	if !between(len(r), 1, maxRopes) || len(u) != len(r) {
		return 0, api.ErrSize
	}
	for i := range r {
		if !(worn{r[i], u[i]}).valid() {
			return 0, api.ErrInvalid
		}
	}
	if !validDay(day) {
		return 0, api.ErrRange
	}
	weakest, least := 0, api.MaxLoad
	for i := range r {
		load, _ := worn{r[i], u[i]}.safe(day) // 0 if too little is left
		if load < least {
			weakest, least = i, load
		}
	}
	return weakest, api.OK
}
