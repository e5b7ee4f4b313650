package job

import (
	"slices"
	"strconv"
	"strings"

	"steeplejack/api"
)

const maxNumber = 1_000_000_000 // of a text

// writeTask returns a task's line with its line feed.
func writeTask(x api.Task) string {
	words := append([]string{x.Name, strconv.Itoa(x.Days), strconv.Itoa(x.Men)}, x.After...)
	return strings.Join(words, " ") + "\n"
}

// readNumber returns the number of a word, if it is that of one.
func readNumber(word string) (int, bool) {
	n, _ := strconv.Atoi(word)
	// What Atoi cannot read, and signs and zeros that no word has, would be written in another way.
	return n, between(n, 0, maxNumber) && strconv.Itoa(n) == word
}

// readTask returns the task of a line, if it has the form of one with its line feed.
func readTask(line string) (api.Task, bool) {
	text, whole := strings.CutSuffix(line, "\n")
	words := strings.Split(text, " ")
	if !whole || len(words) < 3 || slices.Contains(words, "") {
		return api.Task{}, false
	}
	days, ok := readNumber(words[1])
	men, also := readNumber(words[2])
	return api.Task{Name: words[0], Days: days, Men: men, After: words[3:]}, ok && also
}

// Format returns a plan as a text, a line for each task.
func Format(l []api.Task) string {
	if Check(l) != api.OK {
		return ""
	}
	var b strings.Builder
	for _, x := range l {
		b.WriteString(writeTask(x))
	}
	return b.String()
}

// Parse reads a text of a valid plan.
func Parse(s string) (l []api.Task, line int, e api.Errno) {
	switch {
	case len(s) > api.MaxText:
		return nil, 0, api.ErrLong
	case s == "":
		return nil, 0, api.ErrSyntax
	}
	for text := range strings.Lines(s) {
		x, ok := readTask(text)
		if !ok {
			return nil, len(l), api.ErrSyntax
		}
		l = append(l, x)
	}
	if e := Check(l); e != api.OK {
		return nil, 0, e
	}
	return l, 0, api.OK
}
