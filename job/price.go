package job

import "steeplejack/api"

const (
	maxPence   = 1_000_000
	maxMinutes = 1_000_000
)

// ValidRate reports whether a rate is valid.
func ValidRate(r api.Rate) bool {
	return between(r.High, 1, api.MaxHeight) && between(r.Low, 0, maxPence) && between(r.Above, 0, maxPence) && between(r.Come, 0, maxPence)
}

// metres returns how many metres are begun by millimetres.
func metres(n int) int { return (n + 999) / 1_000 }

// Price returns the price of work from the ground to a height.
func Price(r api.Rate, height int) (int, api.Errno) {
	switch {
	case !ValidRate(r):
		return 0, api.ErrInvalid
	case !between(height, 0, api.MaxHeight):
		return 0, api.ErrRange
	}
	low := min(height, r.High)
	return r.Come + r.Low*metres(low) + r.Above*metres(height-low), api.OK
}

// Standing returns the price of work for which some of all minutes were stopped, which cost half as much again.
func Standing(r api.Rate, height, stopped, all int) (int, api.Errno) {
	price, e := Price(r, height)
	switch {
	case e != api.OK:
		return 0, e
	case !between(all, 1, maxMinutes) || !between(stopped, 0, all):
		return 0, api.ErrRange
	}
	return price * (2*all + stopped) / (2 * all), api.OK
}
