package tape

import "steeplejack/api"

const (
	maxReadings = 20
	maxReading  = 1_000_000_000 // of an N or D
)

func validReading(nodes int, r api.Reading) bool {
	for _, x := range [2]api.Ratio{r.Lo, r.Hi} {
		if !between(x.D, 1, maxReading) || !between(x.N, 0, maxReading) {
			return false
		}
	}
	return between(r.A, 0, nodes-1) && between(r.B, 0, nodes-1) && Compare(r.Lo, r.Hi) <= 0
}

// checkReadings returns the error of a net, or else that of its readings.
func checkReadings(nodes int, l []api.Tape, r []api.Reading) api.Errno {
	switch {
	case !Valid(nodes, l):
		return api.ErrInvalid
	case len(r) > maxReadings:
		return api.ErrRange
	}
	for _, x := range r {
		if !validReading(nodes, x) {
			return api.ErrRange
		}
	}
	return api.OK
}

// fits reports whether all of some readings fit.
func fits(l []api.Tape, r []api.Reading) bool {
	for _, x := range r {
		if !joined(l, x.A, x.B) {
			return false
		}
		ohms := resistance(l, x.A, x.B)
		if Compare(x.Lo, ohms) > 0 || Compare(ohms, x.Hi) > 0 {
			return false
		}
	}
	return true
}

// Fits reports whether all readings fit.
func Fits(nodes int, l []api.Tape, r []api.Reading) (bool, api.Errno) {
	if e := checkReadings(nodes, l, r); e != api.OK {
		return false, e
	}
	return fits(l, r), api.OK
}

// Broken returns the indexes of the tapes without which the readings fit.
func Broken(nodes int, l []api.Tape, r []api.Reading) ([]int, api.Errno) {
	if e := checkReadings(nodes, l, r); e != api.OK {
		return nil, e
	}
	if fits(l, r) {
		return nil, api.ErrState
	}
	var broken []int
	for i := range l {
		if fits(without(l, i), r) {
			broken = append(broken, i)
		}
	}
	return broken, api.OK
}

// Weakest returns the first tape without which the resistance between two nodes is greatest.
func Weakest(nodes int, l []api.Tape, a, b int) (int, api.Errno) {
	if e := checkJoined(nodes, l, a, b); e != api.OK {
		return 0, e
	}
	if len(l) == 0 {
		return 0, api.ErrNone
	}
	weakest, greatest := 0, api.Ratio{N: 0, D: 1}
	for i := range l {
		left := without(l, i)
		if !joined(left, a, b) {
			return i, api.OK
		}
		if r := resistance(left, a, b); Compare(r, greatest) > 0 {
			weakest, greatest = i, r
		}
	}
	return weakest, api.OK
}
