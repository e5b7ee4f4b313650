package gear

import (
	"strconv"
	"strings"

	"steeplejack/api"
)

// writeItem returns an item's line with its line feed.
func writeItem(x api.Item) string {
	return x.Mark + " " + strconv.Itoa(x.Load) + " " + strconv.Itoa(x.Due) + " " + x.Batch + "\n"
}

// readItem returns the item of a line, if it is one with its line feed.
func readItem(line string) (api.Item, bool) {
	words := strings.Split(strings.TrimSuffix(line, "\n"), " ")
	if len(words) != 4 {
		return api.Item{}, false
	}
	x := api.Item{Mark: words[0], Batch: words[3]}
	x.Load, _ = strconv.Atoi(words[1])
	x.Due, _ = strconv.Atoi(words[2])
	// What Atoi cannot read, and signs and zeros that no line has, would be written in another way.
	return x, writeItem(x) == line
}

// Format returns gear as a text, a line for each item.
func Format(g []api.Item) string {
	if !Valid(g) {
		return ""
	}
	var b strings.Builder
	for _, x := range g {
		b.WriteString(writeItem(x))
	}
	return b.String()
}

// Parse reads a text of valid gear.
func Parse(s string) (g []api.Item, line int, e api.Errno) {
	if len(s) > api.MaxText {
		return nil, 0, api.ErrLong
	}
	for text := range strings.Lines(s) {
		x, ok := readItem(text)
		g = append(g, x)
		if !ok || !Valid(g) {
			return nil, len(g) - 1, api.ErrSyntax
		}
	}
	return g, 0, api.OK
}
