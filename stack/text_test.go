package stack_test

import (
	"slices"
	"strings"
	"testing"

	"steeplejack/api"
	"steeplejack/stack"
)

// 2.5: Format.
func TestFormat(t *testing.T) {
	for _, c := range []struct {
		l    []api.Course
		want string
	}{
		{one(), "1000 500 300 1000 0 0\n"},
		{three()[:2], "2000 900 500 5000 10 -20\n1500 700 400 3000 30 5\n"},
		{crs(2000, 5000, 4999, 1000000, -5000, 5000), "2000 5000 4999 1000000 -5000 5000\n"},
		{crs(1, 1, 0, 1, 0, 0), "1 1 0 1 0 0\n"},
		{tall(60), strings.Repeat("1000 500 300 1000 0 0\n", 60)},
	} {
		if s := stack.Format(c.l); s != c.want {
			t.Errorf("Format(%v) = %q", c.l, s)
		}
	}
	for _, l := range wrong() {
		if s := stack.Format(l); s != "" {
			t.Errorf("Format(%v) = %q", l, s)
		}
	}
}

// 2.5: Parse.
func TestParse(t *testing.T) {
	for _, c := range []struct {
		s    string
		want []api.Course
	}{
		{"1000 500 300 1000 0 0\n", one()},
		{"2000 900 500 5000 10 -20\n1500 700 400 3000 30 5\n", three()[:2]},
		{"2000 5000 4999 1000000 -5000 5000\n", crs(2000, 5000, 4999, 1000000, -5000, 5000)},
		{strings.Repeat("1000 500 300 1000 0 0\n", 60), tall(60)},
	} {
		if l, line, e := stack.Parse(c.s); e != api.OK || line != 0 || !slices.Equal(l, c.want) {
			t.Errorf("Parse(%q) = %v, line %d, error %d", c.s, l, line, e)
		}
	}
}

func TestParseErrors(t *testing.T) {
	good := "1000 500 300 1000 0 0\n"
	for _, c := range []struct {
		s    string
		line int
	}{
		{"", 0},
		{"\n", 0},
		{"1000 500 300 1000 0 0", 0}, // no last line feed
		{good + "1000 500 300 1000 0 0", 1},
		{good + "\n", 1},
		{good + "\n" + good, 1},
		{good + good + "1", 2},
		{good + good + "x\ny\n", 2},
		{"1000 500 300 1000 0\n", 0},
		{"1000 500 300 1000 0 0 0\n", 0},
		{"1000 500 300 1000  0\n", 0},
		{"1000 500 300 1000 0  0\n", 0},
		{" 1000 500 300 1000 0 0\n", 0},
		{"1000 500 300 1000 0 0 \n", 0},
		{"1000 500 300 1000 0 0\r\n", 0},
		{"1000\t500 300 1000 0 0\n", 0},
		{"01000 500 300 1000 0 0\n", 0},
		{"1000 500 300 1000 -0 0\n", 0},
		{"1000 500 300 1000 0 00\n", 0},
		{"1000 500 300 1000 +1 0\n", 0},
		{"1000 500 300 1_000 0 0\n", 0},
		{"1000 500 300 0x10 0 0\n", 0},
		{"1000 500 300 1e3 0 0\n", 0},
		{"1000 500 300 1000 - 0\n", 0},
		{"1000 500 300 1000 x 0\n", 0},
		{"1000 500 300 1000 0 ٣\n", 0},
		{"1000 500 300 1000 0 18446744073709551616\n", 0},
		{"1000 500 300 1000 0 -18446744073709551616\n", 0},
		{"18446744073709552616 500 300 1000 0 0\n", 0},
		{"0 500 300 1000 0 0\n", 0},
		{"2001 500 300 1000 0 0\n", 0},
		{"1000 5001 300 1000 0 0\n", 0},
		{"1000 500 500 1000 0 0\n", 0},
		{"1000 500 -1 1000 0 0\n", 0},
		{"1000 500 300 0 0 0\n", 0},
		{"1000 500 300 1000001 0 0\n", 0},
		{"1000 500 300 1000 5001 0\n", 0},
		{"1000 500 300 1000 0 -5001\n", 0},
		{good + "1000 500 300 1000 0 -5001\nx", 1},
		{strings.Repeat(good, 61), 60},
		{strings.Repeat(good, 70), 60},
		{strings.Repeat(good, 60) + "x", 60},
		{strings.Repeat(good, 60) + "\n", 60},
	} {
		if l, line, e := stack.Parse(c.s); e != api.ErrSyntax || line != c.line || len(l) != 0 {
			t.Errorf("Parse(%q) = %v, line %d, error %d", c.s, l, line, e)
		}
	}
}

func TestParseLong(t *testing.T) {
	good := "1000 500 300 1000 0 0\n"
	for _, filler := range []string{"x", "\n", " "} {
		s := good + strings.Repeat(filler, api.MaxText-len(good))
		if l, line, e := stack.Parse(s); e != api.ErrSyntax || line != 1 || len(l) != 0 {
			t.Errorf("Parse = %v, line %d, error %d", l, line, e)
		}
		if l, line, e := stack.Parse(s + filler); e != api.ErrLong || line != 0 || len(l) != 0 {
			t.Errorf("Parse = %v, line %d, error %d", l, line, e)
		}
	}
}

// P2.6 and R8
func TestRoundTrip(t *testing.T) {
	r := random()
	for range 200 {
		l := pile(r, 1+r.IntN(60), 5000)
		m, line, e := stack.Parse(stack.Format(l))
		if e != api.OK || line != 0 || !slices.Equal(l, m) {
			t.Fatalf("Parse(Format(%v)) = %v, line %d, error %d", l, m, line, e)
		}
	}
}
