package rope

import (
	"strconv"
	"strings"

	"steeplejack/api"
)

// writeUse returns a use's line with its line feed.
func writeUse(x api.Use) string {
	return strconv.Itoa(x.Day) + " " + strconv.Itoa(x.Load) + "\n"
}

// readUse returns the use of a line, if it is one with its line feed.
func readUse(line string) (api.Use, bool) {
	day, load, _ := strings.Cut(strings.TrimSuffix(line, "\n"), " ")
	var x api.Use
	x.Day, _ = strconv.Atoi(day)
	x.Load, _ = strconv.Atoi(load)
	// What Atoi cannot read, and signs and zeros that no line has, would be written in another way.
	return x, writeUse(x) == line
}

// Format returns uses as a text, a line for each.
func Format(u []api.Use) string {
	if !ValidUses(u) {
		return ""
	}
	var b strings.Builder
	for _, x := range u {
		b.WriteString(writeUse(x))
	}
	return b.String()
}

// Parse reads a text of valid uses.
func Parse(s string) (u []api.Use, line int, e api.Errno) {
	if len(s) > api.MaxText {
		return nil, 0, api.ErrLong
	}
	for text := range strings.Lines(s) {
		x, ok := readUse(text)
		if !ok || !follows(u, x) {
			return nil, len(u), api.ErrSyntax
		}
		u = append(u, x)
	}
	return u, 0, api.OK
}
