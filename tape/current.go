package tape

import "steeplejack/api"

const maxCurrent = 1_000_000_000_000_000_000 // of an N or D

// rest returns the product of the Ohms of the tapes that are not in a set.
func rest(l []api.Tape, s set) int {
	product := 1
	for i, t := range l {
		if !s.has(i) {
			product *= t.Ohms
		}
	}
	return product
}

// voltages returns the voltages of the nodes above that of b, each times whole, when a current of 1 goes in at a, which is joined to b, and out there.
//
// By Kirchhoff, whole is the sum of the rests of the greatest forests, and a node's voltage times whole is that of the forests of one tape less which join the node to a, but not to b.
func voltages(l []api.Tape, a, b int) (v [api.MaxNodes]int, whole int) {
	_, size := join(l, all(l))
	for s := range forests(l, size) {
		whole += rest(l, s)
	}
	for s, r := range forests(l, size-1) {
		if r[a] == r[b] {
			continue
		}
		for x := range v {
			if r[x] == r[a] {
				v[x] += rest(l, s)
			}
		}
	}
	return v, whole
}

// resistance returns the resistance between two nodes that are joined.
func resistance(l []api.Tape, a, b int) api.Ratio {
	v, whole := voltages(l, a, b)
	return ratio(v[a], whole)
}

// checkJoined returns the error of a net, or else that of two nodes of it, which are to be joined.
func checkJoined(nodes int, l []api.Tape, a, b int) api.Errno {
	if e := check(nodes, l, a, b); e != api.OK {
		return e
	}
	if !joined(l, a, b) {
		return api.ErrNone
	}
	return api.OK
}

// Resistance returns the resistance between two nodes.
func Resistance(nodes int, l []api.Tape, a, b int) (api.Ratio, api.Errno) {
	if e := checkJoined(nodes, l, a, b); e != api.OK {
		return api.Ratio{}, e
	}
	return resistance(l, a, b), api.OK
}

// Currents returns the current of each tape when a current of 1 goes in at a and out at b.
func Currents(nodes int, l []api.Tape, a, b int) ([]api.Ratio, api.Errno) {
	if e := checkJoined(nodes, l, a, b); e != api.OK {
		return nil, e
	}
	v, whole := voltages(l, a, b)
	var currents []api.Ratio
	for _, t := range l {
		// A forest that parts the tape's ends is without it: its rest, and so the difference, is a multiple of the Ohms.
		currents = append(currents, ratio((v[t.A]-v[t.B])/t.Ohms, whole))
	}
	return currents, api.OK
}

func validCurrent(c api.Ratio) bool {
	return between(c.D, 1, maxCurrent) && between(c.N, -maxCurrent, maxCurrent)
}

// Flows reports whether currents obey the laws of nets.
func Flows(nodes int, l []api.Tape, a, b int, currents []api.Ratio) bool {
	lawful, e := Currents(nodes, l, a, b)
	if e != api.OK || len(currents) != len(lawful) {
		return false
	}
	// No other currents obey the laws.
	for i, c := range currents {
		if !validCurrent(c) || Compare(c, lawful[i]) != 0 {
			return false
		}
	}
	return true
}
