package fell

import (
	"strconv"
	"strings"

	"steeplejack/api"
)

// writeProp returns a prop's line with its line feed.
func writeProp(p api.Prop) string {
	line := strconv.Itoa(p.At.X) + " " + strconv.Itoa(p.At.Y)
	if p.Wood {
		line += " wood"
	}
	return line + "\n"
}

// readProp returns the prop of a line, if it is one with its line feed.
func readProp(line string) (api.Prop, bool) {
	words, wood := strings.CutSuffix(line, " wood\n")
	x, y, _ := strings.Cut(strings.TrimSuffix(words, "\n"), " ")
	p := api.Prop{Wood: wood}
	p.At.X, _ = strconv.Atoi(x)
	p.At.Y, _ = strconv.Atoi(y)
	// What Atoi cannot read, and signs and zeros that no line has, would be written in another way.
	return p, writeProp(p) == line
}

// Format returns props as a text, a line for each.
func Format(l []api.Prop) string {
	if !Valid(l) {
		return ""
	}
	var b strings.Builder
	for _, p := range l {
		b.WriteString(writeProp(p))
	}
	return b.String()
}

// Parse reads a text of valid props.
func Parse(s string) (l []api.Prop, line int, e api.Errno) {
	if len(s) > api.MaxText {
		return nil, 0, api.ErrLong
	}
	for text := range strings.Lines(s) {
		p, ok := readProp(text)
		if !ok || !follows(l, p) {
			return nil, len(l), api.ErrSyntax
		}
		l = append(l, p)
	}
	return l, 0, api.OK
}
