package rope_test

import (
	"slices"
	"strings"
	"testing"

	"steeplejack/api"
	"steeplejack/rope"
)

// 4.4: Format, and Parse of it.
func TestTexts(t *testing.T) {
	for _, c := range []struct {
		u    []api.Use
		want string
	}{
		{nil, ""},
		{[]api.Use{}, ""},
		{uses(0, 0), "0 0\n"},
		{exampleUses(), "0 1000\n10 500\n10 2000\n30 1\n"},
		{uses(9, 10, 9, 10, 9, 0), "9 10\n9 10\n9 0\n"},
		{uses(100_000, 1_000_000), "100000 1000000\n"},
	} {
		if s := rope.Format(c.u); s != c.want {
			t.Errorf("Format(%v) = %q", c.u, s)
		}
		u, line, e := rope.Parse(c.want)
		if !slices.Equal(u, c.u) || line != 0 || e != api.OK {
			t.Errorf("Parse(%q) = %v, line %d, error %d", c.want, u, line, e)
		}
	}
	for _, u := range wrongUses() {
		if s := rope.Format(u); s != "" {
			t.Errorf("Format(%v) = %q", u, s)
		}
	}
}

// badLines are lines that no text has, wherever they stand.
var badLines = []string{
	"", " ", "1", "1 ", " 1", "1  2", " 1 2", "1 2 ", "1 2 3", "1\t2", "1 2\r", "1,2", "1\u00a02", "x", "1 x", "x 1", "1 2x", "- 1", "1 -", "1 2\x00", "\xff 1", "1 \xff",
	"01 2", "1 02", "00 2", "1 00", "+1 2", "1 +2", "-1 2", "1 -2", "-0 2", "1 -0", "1.0 2", "1 2.0", "1e2 3", "1 2e3", "0x1 2", "1 0x2", "1_0 2", "1 2_0", "١ 2", "1 ２",
	"100001 1", "1 1000001", "18446744073709551617 1", "1 18446744073709551617", "9223372036854775807 1", "1 9223372036854775808", "340282366920938463463374607431768211457 1",
}

// 4.4: the number of the first line with which no text begins.
func TestParseErrors(t *testing.T) {
	check := func(s string, want int) {
		t.Helper()
		u, line, e := rope.Parse(s)
		if len(u) > 0 || line != want || e != api.ErrSyntax {
			t.Errorf("Parse(%q) = %v, line %d, error %d, want line %d", s, u, line, e, want)
		}
	}
	for _, bad := range badLines {
		check(bad+"\n", 0)
		check(bad+"\n1 2\n", 0)
		check("1 2\n"+bad+"\n", 1)
		check("0 0\n1 2\n"+bad+"\n3 4\n", 2)
		check("0 0\n1 2\n"+bad+"\n"+bad, 2)
		if bad != "" {
			check("1 2\n"+bad, 1)
		}
	}
	check("1 2", 0)
	check("1 2\n3 4", 1)
	check("1 2\n3 4\n5", 2)
	check("\n", 0)
	check("1 2\n\n", 1)
	check("1 2\r\n3 4\r\n", 0)
	check("2 2\n1 2\n", 1)
	check("1 2\n5 2\n5 1\n4 9\n5 3\n", 3)
	check("1 2\n5 2\n4 1\nx\n", 2)
	check("1 2\n5 2\n4 1", 2)
	most := rope.Format(sameUses(500, 100_000, 1_000_000))
	u, line, e := rope.Parse(most)
	if len(u) != 500 || line != 0 || e != api.OK {
		t.Errorf("%d of the most uses, line %d, error %d", len(u), line, e)
	}
	check(most+"100000 1\n", 500)
	check(most+"100000 1\nx\n", 500)
	check(most+"x", 500)
	check(most+"\n", 500)
}

// 4.4: a text of MaxText bytes is read, and is none; a longer one is too long.
func TestParseLong(t *testing.T) {
	for _, c := range []struct {
		filler string
		line   int
	}{
		{"1", 0}, {" ", 0}, {"\n", 0}, {"0 0\n", 500}, {"\xff", 0}, {"1 \n", 0},
	} {
		s := strings.Repeat(c.filler, api.MaxText/len(c.filler)+1)
		u, line, e := rope.Parse(s[:api.MaxText])
		if len(u) > 0 || line != c.line || e != api.ErrSyntax {
			t.Errorf("Parse of %q: %v, line %d, error %d", c.filler, u, line, e)
		}
		u, line, e = rope.Parse(s[:api.MaxText+1])
		if len(u) > 0 || line != 0 || e != api.ErrLong {
			t.Errorf("Parse of %q: %v, line %d, error %d", c.filler, u, line, e)
		}
	}
}

// P4.6 and R8.
func TestRoundTrip(t *testing.T) {
	r := random()
	for range 200 {
		u := randomUses(r, r.IntN(501), 1+r.IntN(1_000_000))
		got, line, e := rope.Parse(rope.Format(u))
		if e != api.OK || line != 0 || !slices.Equal(got, u) {
			t.Fatalf("Parse(Format(%v)) = %v, line %d, error %d", u, got, line, e)
		}
	}
}

// 4.4: no other text is read: one with a byte changed is that of other uses, or its first wrong line is told.
func TestParseOthers(t *testing.T) {
	r := random()
	const marks = "0123456789 -\n"
	read := 0
	for range 5000 {
		s := []byte(rope.Format(randomUses(r, 1+r.IntN(4), 120)))
		s[r.IntN(len(s))] = marks[r.IntN(len(marks))]
		u, line, e := rope.Parse(string(s))
		if e == api.OK {
			read++
			if line != 0 || rope.Format(u) != string(s) || !rope.ValidUses(u) {
				t.Fatalf("Parse(%q) = %v, line %d", s, u, line)
			}
			continue
		}
		if e != api.ErrSyntax || len(u) > 0 {
			t.Fatalf("Parse(%q) = %v, error %d", s, u, e)
		}
		checkWrongLine(t, string(s), line)
	}
	if read < 500 || read > 4500 {
		t.Errorf("%d of 5000 texts are read", read)
	}
}

// checkWrongLine checks that the lines before one are a text, and that they are none with it.
func checkWrongLine(t *testing.T, s string, line int) {
	t.Helper()
	lines := strings.SplitAfter(s, "\n")
	if line >= len(lines) {
		t.Fatalf("Parse(%q): line %d", s, line)
	}
	_, _, before := rope.Parse(strings.Join(lines[:line], ""))
	_, _, with := rope.Parse(strings.Join(lines[:line+1], ""))
	if before != api.OK || with != api.ErrSyntax {
		t.Fatalf("Parse(%q): line %d", s, line)
	}
}
