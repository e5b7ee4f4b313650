package firm

import (
	"strconv"
	"strings"

	"steeplejack/api"
	"steeplejack/ladder"
	"steeplejack/stack"
)

// query returns what is asked of a stack.
type query func(s *state, i int) (string, api.Errno)

// queries returns the queries of a stack by their names.
func queries() map[string]query {
	return map[string]query{"aloft": (*state).men, "height": (*state).height, "safe": (*state).safe, "bears": (*state).bears}
}

func (s *state) men(i int) (string, api.Errno) { return strconv.Itoa(s.chimneys[i].men), api.OK }

func (s *state) height(i int) (string, api.Errno) {
	height, e := stack.Height(s.Stacks[i])
	return strconv.Itoa(height), e
}

func (s *state) safe(i int) (string, api.Errno) {
	p, side, e := stack.Least(s.Stacks[i])
	return spaced(strconv.Itoa(p), side), e
}

func (s *state) bears(i int) (string, api.Errno) {
	dogs := s.chimneys[i].dogs
	ladders, e := ladder.Ladders(s.Climb, s.Joints[i], dogs)
	if e != api.OK {
		return "", e
	}
	most, e := ladder.Greatest(s.Climb, s.Joints[i], dogs, ladders)
	return strconv.Itoa(most), e
}

// ask answers a query.
func (s *state) ask(line string) (string, api.Errno) {
	switch line {
	case "now":
		return strconv.Itoa(s.day), api.OK
	case "money":
		return strconv.Itoa(s.money), api.OK
	case "goes":
		if s.goes() {
			return "yes", api.OK
		}
		return "no", api.OK
	}
	name, word, _ := strings.Cut(line, " ")
	i, ok := readNumber(word)
	asked := queries()[name]
	switch {
	case !ok || asked == nil:
		return "", api.ErrCommand
	case !s.isStack(i):
		return "", api.ErrName
	}
	return asked(s, i)
}

// answer does a command or answers a query.
func (f *Firm) answer(line string) (string, api.Errno) {
	c, ok := read(line)
	if !ok {
		return f.state.ask(line)
	}
	e := f.run(c)
	if _, made := c.(*hang); made {
		return strconv.Itoa(len(f.state.rigs) - 1), e
	}
	return "ok", e
}

// said returns the printed line of an answer, or of its error.
func said(answer string, e api.Errno) string {
	if e != api.OK {
		answer = spaced("error", int(e))
	}
	return answer + "\n"
}

// Do runs a script, and returns what it prints.
func Do(f *Firm, s string) string {
	switch {
	case f.none():
		return said("", api.ErrInvalid)
	case len(s) > api.MaxText:
		return said("", api.ErrLong)
	}
	var b strings.Builder
	for line := range strings.SplitSeq(s, "\n") {
		if line != "" {
			b.WriteString(said(f.answer(line)))
		}
	}
	return b.String()
}
