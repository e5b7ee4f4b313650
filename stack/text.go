package stack

import (
	"strconv"
	"strings"

	"steeplejack/api"
)

// numbers returns a course's numbers in the order of its line.
func numbers(c api.Course) [6]int {
	return [6]int{c.Height, c.Out, c.In, c.Weight, c.East, c.North}
}

// writeCourse returns a course's line without its line feed.
func writeCourse(c api.Course) string {
	var words []string
	for _, n := range numbers(c) {
		words = append(words, strconv.Itoa(n))
	}
	return strings.Join(words, " ")
}

func readCourse(text string) (api.Course, bool) {
	words := strings.Split(text, " ")
	n := numbers(api.Course{})
	if len(words) != len(n) {
		return api.Course{}, false
	}
	for i, w := range words {
		n[i], _ = strconv.Atoi(w)
	}
	c := api.Course{Height: n[0], Out: n[1], In: n[2], Weight: n[3], East: n[4], North: n[5]}
	// What Atoi cannot read, and signs and zeros that no line has, would be written in another way.
	return c, validCourse(c) && writeCourse(c) == text
}

// Format returns a stack as a text, a line for each course.
func Format(l []api.Course) string {
	if !Valid(l) {
		return ""
	}
	var b strings.Builder
	for _, c := range l {
		b.WriteString(writeCourse(c) + "\n")
	}
	return b.String()
}

// Parse reads a text of a valid stack.
func Parse(s string) (l []api.Course, line int, e api.Errno) {
	if len(s) > api.MaxText {
		return nil, 0, api.ErrLong
	}
	lines := strings.SplitAfter(s, "\n")
	// A text that ends with a line feed has nothing behind it; the empty text lacks its first line.
	if n := len(lines); n > 1 && lines[n-1] == "" {
		lines = lines[:n-1]
	}
	for i, text := range lines {
		text, ended := strings.CutSuffix(text, "\n")
		c, ok := readCourse(text)
		if !ended || !ok || i == api.MaxCourses {
			return nil, i, api.ErrSyntax
		}
		l = append(l, c)
	}
	return l, 0, api.OK
}
