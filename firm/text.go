package firm

import (
	"strconv"
	"strings"

	"steeplejack/api"
)

const maxNumber = 1_000_000_000_000_000 // of a Text, either way

// spaced returns a word and numbers, separated by single blanks.
func spaced(word string, numbers ...int) string {
	for _, n := range numbers {
		word += " " + strconv.Itoa(n)
	}
	return word
}

func (c *gust) text() string   { return spaced("gust", c.gust) }
func (c *day) text() string    { return "day" }
func (c *dog) text() string    { return spaced("dog", c.stack) }
func (c *strike) text() string { return spaced("strike", c.rig) }
func (c *up) text() string     { return spaced("up", c.stack, c.men) }
func (c *down) text() string   { return spaced("down", c.stack, c.men) }
func (c *look) text() string   { return "look " + c.mark }
func (c *call) text() string   { return "call " + c.batch }
func (c *fell) text() string   { return spaced("fell", c.stack) }
func (c *bill) text() string   { return spaced("bill", c.stack) }

func (c *hang) text() string {
	text := spaced("rig", c.stack)
	for _, x := range c.links {
		text += " " + x.Mark + ":" + strconv.Itoa(x.From)
	}
	return text
}

func (c *lift) text() string { return spaced(spaced("lift", c.rig), c.loads...) }

// blank returns a command with a name that is still to be read, nil if none has it.
func blank(name string) command {
	switch name {
	case "gust":
		return &gust{}
	case "day":
		return &day{}
	case "dog":
		return &dog{}
	case "rig":
		return &hang{}
	case "strike":
		return &strike{}
	case "up":
		return &up{}
	case "down":
		return &down{}
	case "lift":
		return &lift{}
	case "look":
		return &look{}
	case "call":
		return &call{}
	case "fell":
		return &fell{}
	case "bill":
		return &bill{}
	}
	return nil
}

// readNumber returns the number of a word, if it is that of one.
func readNumber(word string) (int, bool) {
	n, _ := strconv.Atoi(word)
	// What Atoi cannot read, and signs and zeros that no word has, would be written in another way.
	return n, between(n, -maxNumber, maxNumber) && strconv.Itoa(n) == word
}

// readNumbers reads as many numbers as there are words.
func readNumbers(words []string, numbers ...*int) bool {
	if len(words) != len(numbers) {
		return false
	}
	for i, word := range words {
		n, ok := readNumber(word)
		if !ok {
			return false
		}
		*numbers[i] = n
	}
	return true
}

// readWord reads the only word.
func readWord(words []string, to *string) bool {
	if len(words) != 1 {
		return false
	}
	*to = words[0]
	return true
}

// readList reads a number, and then each of at least one word more.
func readList(words []string, number *int, more func(word string) bool) bool {
	if len(words) < 2 || !readNumbers(words[:1], number) {
		return false
	}
	for _, word := range words[1:] {
		if !more(word) {
			return false
		}
	}
	return true
}

// readLink reads one more link.
func (c *hang) readLink(word string) bool {
	mark, from, _ := strings.Cut(word, ":")
	n, ok := readNumber(from)
	c.links = append(c.links, api.Link{Mark: mark, From: n})
	return ok && mark != ""
}

// readLoad reads one more load.
func (c *lift) readLoad(word string) bool {
	load, ok := readNumber(word)
	c.loads = append(c.loads, load)
	return ok
}

// read returns the command of a Text, if it is that of one.
func read(text string) (command, bool) {
	all := strings.Split(text, " ")
	name, words := all[0], all[1:]
	switch c := blank(name).(type) {
	case *gust:
		return c, readNumbers(words, &c.gust)
	case *day:
		return c, readNumbers(words)
	case *dog:
		return c, readNumbers(words, &c.stack)
	case *hang:
		return c, readList(words, &c.stack, c.readLink)
	case *strike:
		return c, readNumbers(words, &c.rig)
	case *up:
		return c, readNumbers(words, &c.stack, &c.men)
	case *down:
		return c, readNumbers(words, &c.stack, &c.men)
	case *lift:
		return c, readList(words, &c.rig, c.readLoad)
	case *look:
		return c, readWord(words, &c.mark)
	case *call:
		return c, readWord(words, &c.batch)
	case *fell:
		return c, readNumbers(words, &c.stack)
	case *bill:
		return c, readNumbers(words, &c.stack)
	}
	return nil, false
}
