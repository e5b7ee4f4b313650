package firm

import (
	"bytes"
	"iter"
	"slices"
	"strconv"
	"strings"

	"steeplejack/api"
)

const (
	hashBegins uint64 = 14695981039346656037
	hashTimes  uint64 = 1099511628211
)

// start stands in front of the first line of a book.
var start = api.Entry{Number: -1}

func hash(s string) uint64 {
	sum := hashBegins
	for _, b := range []byte(s) {
		sum = (sum ^ uint64(b)) * hashTimes
	}
	return sum
}

// next returns the line behind another one.
func next(last api.Entry, day int, text string) api.Entry {
	x := api.Entry{Number: last.Number + 1, Day: day, Text: text}
	x.Sum = hash(spaced(strconv.FormatUint(last.Sum, 10), x.Number, day) + " " + text)
	return x
}

// last returns the last line of the book.
func (s *state) last() api.Entry {
	if len(s.lines) == 0 {
		return start
	}
	return s.lines[len(s.lines)-1]
}

func (s *state) write(text string) { s.lines = append(s.lines, next(s.last(), s.day, text)) }

// writeLine returns a line as it stands in a book's bytes, with its line feed.
func writeLine(x api.Entry) string {
	return spaced(strconv.Itoa(x.Number), x.Day) + " " + strconv.FormatUint(x.Sum, 10) + " " + x.Text + "\n"
}

// readLine returns the line behind another one that bytes are, if they are one.
func readLine(last api.Entry, line string) (api.Entry, bool) {
	parts := strings.SplitN(strings.TrimSuffix(line, "\n"), " ", 4) // a Text may have blanks
	if len(parts) < 4 || parts[3] == "" {
		return api.Entry{}, false
	}
	day, _ := strconv.Atoi(parts[1])
	x := next(last, day, parts[3])
	// There is just one line of this day and Text. What is not whole, or has a number that is wrong or written in another way, is another.
	return x, between(day, 0, api.MaxDay) && writeLine(x) == line
}

// fitting yields the lines of a book's bytes, and stops at the first that does not fit.
func fitting(l []byte) iter.Seq[api.Entry] {
	return func(yield func(api.Entry) bool) {
		last := start
		for line := range bytes.Lines(l) {
			x, ok := readLine(last, string(line))
			if !ok || !yield(x) {
				return
			}
			last = x
		}
	}
}

// readBook returns the lines of a book's bytes.
func readBook(l []byte) ([]api.Entry, api.Errno) {
	var lines []api.Entry
	for x := range fitting(l) {
		if len(lines) == api.MaxLines {
			return nil, api.ErrLimit
		}
		lines = append(lines, x)
	}
	if len(lines) < bytes.Count(l, []byte("\n")) {
		return nil, api.ErrChain
	}
	return lines, api.OK
}

// again does what a line says, and reports whether the firm writes the same line.
func (f *Firm) again(line api.Entry) bool {
	c, ok := read(line.Text)
	return ok && f.run(c) == api.OK && f.state.last() == line
}

// Lines returns the lines of the book.
func (f *Firm) Lines() []api.Entry { return slices.Clone(f.seen().lines) }

// Bytes returns the bytes of the book.
func (f *Firm) Bytes() []byte {
	var b []byte
	for _, x := range f.seen().lines {
		b = append(b, writeLine(x)...)
	}
	return b
}

// Read returns the firm that a book makes of a setup.
func Read(x Setup, l []byte) (*Firm, api.Errno) {
	f, e := New(x)
	if e != api.OK {
		return nil, e
	}
	lines, e := readBook(l)
	if e != api.OK {
		return nil, e
	}
	for _, line := range lines {
		if !f.again(line) {
			return nil, api.ErrState
		}
	}
	return f, api.OK
}
