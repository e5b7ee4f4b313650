package tape

import (
	"strconv"
	"strings"

	"steeplejack/api"
)

// net is a net of which a text is read, line by line.
type net struct {
	nodes int // 0 before the first line
	tapes []api.Tape
}

// reader reads lines of one kind: how many numbers they have behind their first word, and what takes these into a net, if they go on with it.
type reader struct {
	numbers int
	take    func(n *net, numbers []int) bool
}

// readers returns the reader of each first word.
func readers() map[string]reader {
	return map[string]reader{
		"nodes": {1, takeNodes},
		"tape":  {3, takeTape},
	}
}

func takeNodes(n *net, numbers []int) bool {
	first := n.nodes == 0
	n.nodes = numbers[0]
	return first && Valid(n.nodes, nil)
}

func takeTape(n *net, numbers []int) bool {
	n.tapes = append(n.tapes, api.Tape{A: numbers[0], B: numbers[1], Ohms: numbers[2]})
	return Valid(n.nodes, n.tapes)
}

// take reads a line, and reports whether it goes on with the text.
func (n *net) take(line string) bool {
	words := strings.Split(line, " ")
	r, known := readers()[words[0]]
	if !known || len(words) != 1+r.numbers {
		return false
	}
	var numbers []int
	for _, w := range words[1:] {
		x, err := strconv.Atoi(w)
		// Atoi also reads signs and zeros that no text has.
		if err != nil || strconv.Itoa(x) != w {
			return false
		}
		numbers = append(numbers, x)
	}
	return r.take(n, numbers)
}

// writeLine returns a line of a word and numbers.
func writeLine(word string, numbers ...int) string {
	for _, x := range numbers {
		word += " " + strconv.Itoa(x)
	}
	return word + "\n"
}

// Format returns a net as a text, a line for its nodes and one for each tape.
func Format(nodes int, l []api.Tape) string {
	if !Valid(nodes, l) {
		return ""
	}
	text := writeLine("nodes", nodes)
	for _, t := range l {
		text += writeLine("tape", t.A, t.B, t.Ohms)
	}
	return text
}

// Parse reads a text of a valid net.
func Parse(s string) (nodes int, l []api.Tape, line int, e api.Errno) {
	if len(s) > api.MaxText {
		return 0, nil, 0, api.ErrLong
	}
	var n net
	// The empty text lacks its first line.
	for rest := s; rest != "" || line == 0; line++ {
		text, after, ended := strings.Cut(rest, "\n")
		if !ended || !n.take(text) {
			return 0, nil, line, api.ErrSyntax
		}
		rest = after
	}
	return n.nodes, n.tapes, 0, api.OK
}
