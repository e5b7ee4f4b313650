package fell

import (
	"slices"
	"sort"

	"steeplejack/api"
)

const (
	maxReach = 20_000
	maxWide  = 1_000
)

// ValidZone reports whether a zone is valid.
func ValidZone(z api.Zone) bool {
	return isSpot(z.Foot) && isSpot(z.To) && z.Foot != z.To && between(z.Reach, 1, maxReach) && between(z.Wide, 0, maxWide)
}

// areThings reports whether spots may be things or ways.
func areThings(l []api.Spot) bool { return len(l) <= api.MaxThings && areSpots(l) }

// in reports whether a spot is in a valid zone; all numbers stay below 10^18.
func in(z api.Zone, s api.Spot) bool {
	v, p := from(z.Foot, z.To), from(z.Foot, s)
	along := dot(v, p)
	return along >= 0 && along*along <= z.Reach*z.Reach*dot(v, v) && 1000*abs(cross(v, p)) <= z.Wide*along
}

// isClear reports whether no thing is in a valid zone.
func isClear(z api.Zone, things []api.Spot) bool {
	return !slices.ContainsFunc(things, func(s api.Spot) bool { return in(z, s) })
}

// In reports whether a spot is in a zone.
func In(z api.Zone, s api.Spot) (bool, api.Errno) {
	switch {
	case !ValidZone(z):
		return false, api.ErrInvalid
	case !isSpot(s):
		return false, api.ErrRange
	}
	return in(z, s), api.OK
}

// Hit returns the indexes of the things that are in a zone.
func Hit(z api.Zone, things []api.Spot) ([]int, api.Errno) {
	switch {
	case !ValidZone(z):
		return nil, api.ErrInvalid
	case !areThings(things):
		return nil, api.ErrRange
	}
	var hit []int
	for i, s := range things {
		if in(z, s) {
			hit = append(hit, i)
		}
	}
	return hit, api.OK
}

// Clear returns the index of the first way whose zone has no thing in it.
func Clear(foot api.Spot, reach, wide int, things, ways []api.Spot) (int, api.Errno) {
	if !isSpot(foot) || !between(reach, 1, maxReach) || !between(wide, 0, maxWide) || !areThings(things) || !areThings(ways) {
		return 0, api.ErrRange
	}
	for i, way := range ways {
		z := api.Zone{Foot: foot, To: way, Reach: reach, Wide: wide}
		if ValidZone(z) && isClear(z, things) {
			return i, api.OK
		}
	}
	return 0, api.ErrNone
}

// Widest returns the greatest Wide with which a zone has no thing in it.
func Widest(foot, to api.Spot, reach int, things []api.Spot) (int, api.Errno) {
	switch {
	case !isSpot(foot) || !isSpot(to) || !between(reach, 1, maxReach) || !areThings(things):
		return 0, api.ErrRange
	case foot == to:
		return 0, api.ErrState
	}
	// What is in a zone is also in a wider one.
	tooWide := sort.Search(maxWide+1, func(wide int) bool {
		return !isClear(api.Zone{Foot: foot, To: to, Reach: reach, Wide: wide}, things)
	})
	if tooWide == 0 {
		return 0, api.ErrNone
	}
	return tooWide - 1, api.OK
}
