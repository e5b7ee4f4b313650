package wind

import (
	"strconv"
	"strings"

	"steeplejack/api"
)

// writeGust returns a gust's word.
func writeGust(gust int) string {
	if gust == noReading {
		return "-"
	}
	return strconv.Itoa(gust)
}

// readGust returns the gust of a word, if it is that of one; if it is not, the gust that is returned has another word.
func readGust(word string) int {
	if word == "-" {
		return noReading
	}
	gust, _ := strconv.Atoi(word)
	return gust
}

// Format returns gusts as a text, a word for each.
func Format(l []int) string {
	if !ValidGusts(l) {
		return ""
	}
	var words []string
	for _, gust := range l {
		words = append(words, writeGust(gust))
	}
	return strings.Join(words, " ")
}

// Parse reads a text of valid gusts.
func Parse(s string) ([]int, api.Errno) {
	switch {
	case len(s) > api.MaxText:
		return nil, api.ErrLong
	case s == "":
		return nil, api.OK
	}
	var l []int
	for word := range strings.SplitSeq(s, " ") {
		l = append(l, readGust(word))
	}
	// What Atoi cannot read, and signs and zeros that no word has, would be written in another way.
	if Format(l) != s {
		return nil, api.ErrSyntax
	}
	return l, api.OK
}
