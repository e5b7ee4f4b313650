package fell_test

import (
	"slices"
	"strings"
	"testing"

	"steeplejack/api"
	"steeplejack/fell"
)

// 6.4: Format, and Parse of it.
func TestTexts(t *testing.T) {
	for _, c := range []struct {
		l    []api.Prop
		want string
	}{
		{nil, ""},
		{[]api.Prop{}, ""},
		{props(0, 0), "0 0\n"},
		{wooden(0, 0), "0 0 wood\n"},
		{example(), "0 0\n10 0\n0 10\n"},
		{slices.Concat(props(-1, 20), wooden(10_000, -10_000), props(-10_000, 10_000), wooden(-7, -8)), "-1 20\n10000 -10000 wood\n-10000 10000\n-7 -8 wood\n"},
	} {
		if s := fell.Format(c.l); s != c.want {
			t.Errorf("Format(%v) = %q", c.l, s)
		}
		l, line, e := fell.Parse(c.want)
		if !slices.Equal(l, c.l) || line != 0 || e != api.OK {
			t.Errorf("Parse(%q) = %v, line %d, error %d", c.want, l, line, e)
		}
	}
	for _, l := range wrongProps() {
		if s := fell.Format(l); s != "" {
			t.Errorf("Format(%v) = %q", l, s)
		}
	}
}

// badLines are lines that no text has, wherever they stand.
var badLines = []string{
	"", " ", "1", "1 ", " 1", "1  2", " 1 2", "1 2 ", "1 2 3", "1\t2", "1 2\r", "1,2", "1\u00a02", "x", "1 x", "x 1", "1 2x", "- 1", "1 -", "1 2\x00", "\xff 1", "1 \xff",
	"01 2", "1 02", "00 2", "1 00", "+1 2", "1 +2", "-0 2", "1 -0", "-01 2", "1 -02", "--1 2", "1.0 2", "1 2.0", "1e2 3", "0x1 2", "1_0 2", "1 2_0", "١ 2", "1 ２",
	"10001 1", "1 10001", "-10001 1", "1 -10001", "18446744073709551617 1", "1 18446744073709551617", "9223372036854775807 1", "1 -9223372036854775808", "1 9223372036854775808",
	"wood", " wood", "1 wood", "1 2 wood ", "1 2  wood", "1 2 Wood", "1 2 WOOD", "1 2 woo", "1 2 woods", "1 2wood", "1 2 wood wood", "1 2 wood\r", "1 2 3 wood", "wood 1 2", "1 wood 2", "1 2 brick", "1 2\twood", "1 02 wood", "x 1 wood",
}

// wantWrong checks that a text is none from a line on.
func wantWrong(t *testing.T, s string, want int) {
	t.Helper()
	l, line, e := fell.Parse(s)
	if len(l) > 0 || line != want || e != api.ErrSyntax {
		t.Errorf("Parse(%q) = %v, line %d, error %d, want line %d", s, l, line, e, want)
	}
}

// 6.4: the number of the first line with which no text begins.
func TestParseErrors(t *testing.T) {
	for _, bad := range badLines {
		wantWrong(t, bad+"\n", 0)
		wantWrong(t, bad+"\n5 2\n", 0)
		wantWrong(t, "5 2\n"+bad+"\n", 1)
		wantWrong(t, "0 0\n5 2 wood\n"+bad+"\n3 4\n", 2)
		wantWrong(t, "0 0\n5 2 wood\n"+bad+"\n"+bad, 2)
		if bad != "" {
			wantWrong(t, "5 2\n"+bad, 1)
		}
	}
	wantWrong(t, "1 2", 0)
	wantWrong(t, "1 2 wood", 0)
	wantWrong(t, "1 2\n3 4", 1)
	wantWrong(t, "1 2\n3 4 wood\n5", 2)
	wantWrong(t, "\n", 0)
	wantWrong(t, "1 2\n\n", 1)
	wantWrong(t, "1 2\r\n3 4\r\n", 0)
	wantWrong(t, "1 2\n1 2\n", 1)
	wantWrong(t, "1 2\n2 1\n1 2 wood\n", 2)
	wantWrong(t, "1 2 wood\n2 1\n3 3\n1 2\nx\n", 3)
	wantWrong(t, "1 2\n2 1\n1 2", 2)
	most := fell.Format(row(24))
	l, line, e := fell.Parse(most)
	if !slices.Equal(l, row(24)) || line != 0 || e != api.OK {
		t.Errorf("%d of the most props, line %d, error %d", len(l), line, e)
	}
	for _, more := range []string{"24 0\n", "24 0\nx\n", "24 0", "x", "\n", "0 0\n"} {
		wantWrong(t, most+more, 24)
	}
}

// 6.4: a text of MaxText bytes is read, and is none; a longer one is too long.
func TestParseLong(t *testing.T) {
	for _, c := range []struct {
		filler string
		line   int
	}{
		{"1", 0}, {" ", 0}, {"\n", 0}, {"0 0\n", 1}, {"\xff", 0}, {"1 \n", 0}, {"1 2 wood\n2 1\n", 2},
	} {
		s := strings.Repeat(c.filler, api.MaxText/len(c.filler)+1)
		wantWrong(t, s[:api.MaxText], c.line)
		l, line, e := fell.Parse(s[:api.MaxText+1])
		if len(l) > 0 || line != 0 || e != api.ErrLong {
			t.Errorf("Parse of %q: %v, line %d, error %d", c.filler, l, line, e)
		}
	}
}

// P6.6 and R8.
func TestRoundTrip(t *testing.T) {
	r := random()
	for range 500 {
		l := randomProps(r, r.IntN(25), scale(r))
		got, line, e := fell.Parse(fell.Format(l))
		if !slices.Equal(got, l) || line != 0 || e != api.OK {
			t.Fatalf("Parse(Format(%v)) = %v, line %d, error %d", l, got, line, e)
		}
	}
}

// 6.4: no other text is read: one with a byte changed is that of other props, or its first wrong line is told.
func TestParseOthers(t *testing.T) {
	r := random()
	const marks = "0123456789 -\nwod"
	read := 0
	for range 5000 {
		s := []byte(fell.Format(randomProps(r, 1+r.IntN(4), 120)))
		s[r.IntN(len(s))] = marks[r.IntN(len(marks))]
		l, line, e := fell.Parse(string(s))
		if e == api.OK {
			read++
			if line != 0 || fell.Format(l) != string(s) || !fell.Valid(l) {
				t.Fatalf("Parse(%q) = %v, line %d", s, l, line)
			}
			continue
		}
		if e != api.ErrSyntax || len(l) > 0 {
			t.Fatalf("Parse(%q) = %v, error %d", s, l, e)
		}
		checkWrongLine(t, string(s), line)
	}
	if read < 500 || read > 4500 {
		t.Errorf("%d of 5000 texts are read", read)
	}
}

// checkWrongLine checks that the lines before one are a text, and that they are none with it.
func checkWrongLine(t *testing.T, s string, line int) {
	t.Helper()
	lines := strings.SplitAfter(s, "\n")
	if line >= len(lines) {
		t.Fatalf("Parse(%q): line %d", s, line)
	}
	_, _, before := fell.Parse(strings.Join(lines[:line], ""))
	_, _, with := fell.Parse(strings.Join(lines[:line+1], ""))
	if before != api.OK || with != api.ErrSyntax {
		t.Fatalf("Parse(%q): line %d", s, line)
	}
}
