package ladder

import (
	"strconv"
	"strings"

	"steeplejack/api"
)

// Format returns joints as a text, a word for each.
func Format(l []api.Joint) string {
	if !ValidJoints(l) {
		return ""
	}
	var words []string
	for _, j := range l {
		word := strconv.Itoa(j.Height)
		if !j.Sound {
			word += "!"
		}
		words = append(words, word)
	}
	return strings.Join(words, " ")
}

// Parse reads a text of valid joints.
func Parse(s string) ([]api.Joint, api.Errno) {
	switch {
	case len(s) > api.MaxText:
		return nil, api.ErrLong
	case s == "":
		return nil, api.OK
	}
	l := read(s)
	if Format(l) != s {
		return nil, api.ErrSyntax
	}
	return l, api.OK
}

// read returns the joints of a text, if it is one of joints; if it is not, it is no text of the joints that read makes of it.
func read(s string) []api.Joint {
	l := []api.Joint{{Sound: true}}
	for _, r := range s {
		last := &l[len(l)-1]
		switch r {
		case ' ':
			l = append(l, api.Joint{Sound: true})
		case '!':
			last.Sound = false
		default:
			last.Height = last.Height*10 + int(r-'0')
		}
	}
	return l
}
