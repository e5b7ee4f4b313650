package lean

import (
	"strconv"
	"strings"

	"steeplejack/api"
)

// Format returns a survey as a text, a line for each mark.
func Format(l []api.Mark) string {
	if !Valid(l) {
		return ""
	}
	var b strings.Builder
	for _, m := range l {
		b.WriteString(strconv.Itoa(m.Height) + " " + strconv.Itoa(m.East) + " " + strconv.Itoa(m.North) + "\n")
	}
	return b.String()
}

// Parse reads a text of a valid survey.
func Parse(s string) (l []api.Mark, line int, e api.Errno) {
	if len(s) > api.MaxText {
		return nil, 0, api.ErrLong
	}
	for rest := s; rest != "" || len(l) == 0; {
		text, after, ended := strings.Cut(rest, "\n")
		m, ok := readMark(text)
		if !ended || !ok || !follows(l, m) {
			return nil, len(l), api.ErrSyntax
		}
		l = append(l, m)
		rest = after
	}
	return l, 0, api.OK
}

func readMark(text string) (api.Mark, bool) {
	words := strings.Split(text, " ")
	if len(words) != 3 {
		return api.Mark{}, false
	}
	var n [3]int
	for i, w := range words {
		var err error
		n[i], err = strconv.Atoi(w)
		// Atoi also reads signs and zeros that a text does not have.
		if err != nil || strconv.Itoa(n[i]) != w {
			return api.Mark{}, false
		}
	}
	return api.Mark{Height: n[0], East: n[1], North: n[2]}, true
}
