package gear_test

import (
	"slices"
	"strings"
	"testing"

	"steeplejack/api"
	"steeplejack/gear"
)

// 7.4: Format, and Parse of it.
func TestTexts(t *testing.T) {
	for _, c := range []struct {
		g    []api.Item
		want string
	}{
		{nil, ""},
		{[]api.Item{}, ""},
		{[]api.Item{item("m", 1, 0, "b")}, "m 1 0 b\n"},
		{[]api.Item{item("abcdefghijklmnop", 1_000_000, 100_000, "z_0123456789_abc")}, "abcdefghijklmnop 1000000 100000 z_0123456789_abc\n"},
		{store()[:3], "hook 500 40 old\nbeam 10000 90 steel\nsling_a 3000 60 hemp1\n"},
		{[]api.Item{item("m", 10, 20, "m"), item("b", 10, 20, "m")}, "m 10 20 m\nb 10 20 m\n"},
	} {
		if s := gear.Format(c.g); s != c.want {
			t.Errorf("Format(%v) = %q", c.g, s)
		}
		g, line, e := gear.Parse(c.want)
		if !slices.Equal(g, c.g) || line != 0 || e != api.OK {
			t.Errorf("Parse(%q) = %v, line %d, error %d", c.want, g, line, e)
		}
	}
	for _, g := range append(wrongGear(), alike(65, 1)) {
		if s := gear.Format(g); s != "" {
			t.Errorf("Format(%v) = %q", g, s)
		}
	}
}

// badLines are lines that no text has, wherever they stand.
var badLines = []string{
	"", " ", "x", "x 1", "x 1 2", "x 1 2 ", "x 1 2 b ", " x 1 2 b", "x  1 2 b", "x 1  2 b", "x 1 2  b", "x 1 2 b c", "x 1 2 3 b", "x\t1 2 b", "x 1\t2 b", "x 1 2\tb", "x 1 2 b\r", "x,1,2,b", "x\u00a01 2 b", "x 1 2 b\x00", "1 2 b", " 1 2 b", "x 1 b", "x y 1 2",
	"X 1 2 b", "x 1 2 B", "_x 1 2 b", "x 1 2 _b", "0x 1 2 b", "x 1 2 0b", "x-y 1 2 b", "x 1 2 b-c", "é 1 2 b", "x 1 2 é", "\xff 1 2 b", "x 1 2 \xff", "x: 1 2 b", "abcdefghijklmnopq 1 2 b", "x 1 2 abcdefghijklmnopq", "1 x 2 b", "x 1 2 2",
	"x 0 2 b", "x 1000001 2 b", "x -1 2 b", "x 01 2 b", "x 00 2 b", "x +1 2 b", "x -0 2 b", "x 1.0 2 b", "x 1e2 2 b", "x 0x1 2 b", "x 1_0 2 b", "x ١ 2 b", "x y 2 b", "x 18446744073709551617 2 b", "x 9223372036854775808 2 b", "x 9223372036854775807 2 b", "x - 2 b", "x  2 b",
	"x 1 100001 b", "x 1 -1 b", "x 1 02 b", "x 1 00 b", "x 1 +2 b", "x 1 -0 b", "x 1 2.0 b", "x 1 1e2 b", "x 1 0x2 b", "x 1 2_0 b", "x 1 ٢ b", "x 1 y b", "x 1 18446744073709551616 b", "x 1 -9223372036854775808 b", "x 1 9223372036854775808 b", "x 1 - b", "x 1  b",
}

// wantWrong checks that a text is none from a line on.
func wantWrong(t *testing.T, s string, want int) {
	t.Helper()
	g, line, e := gear.Parse(s)
	if len(g) > 0 || line != want || e != api.ErrSyntax {
		t.Errorf("Parse(%q) = %v, line %d, error %d, want line %d", s, g, line, e, want)
	}
}

// 7.4: the number of the first line with which no text begins.
func TestParseErrors(t *testing.T) {
	for _, bad := range badLines {
		wantWrong(t, bad+"\n", 0)
		wantWrong(t, bad+"\nm 1 2 b\n", 0)
		wantWrong(t, "m 1 2 b\n"+bad+"\n", 1)
		wantWrong(t, "m 1 2 b\nn 3 4 b\n"+bad+"\no 1 2 b\n", 2)
		wantWrong(t, "m 1 2 b\nn 3 4 b\n"+bad+"\n"+bad, 2)
		if bad != "" {
			wantWrong(t, bad, 0)
			wantWrong(t, "m 1 2 b\n"+bad, 1)
		}
	}
	wantWrong(t, "m 1 2 b", 0)
	wantWrong(t, "m 1 2 b\nn 3 4 b", 1)
	wantWrong(t, "m 1 2 b\n\nn 3 4 b\n", 1)
	wantWrong(t, "m 1 2 b\r\nn 3 4 b\r\n", 0)
	wantWrong(t, "m 1 2 b\nm 1 2 b\n", 1)
	wantWrong(t, "m 1 2 b\nb 1 2 m\nm 3 4 c\nx\n", 2)
	wantWrong(t, "m 1 2 b\nn 1 2 b\nm 1 2 b", 2)
	most := gear.Format(alike(64, 1))
	g, line, e := gear.Parse(most)
	if !slices.Equal(g, alike(64, 1)) || line != 0 || e != api.OK {
		t.Errorf("%d of the most items, line %d, error %d", len(g), line, e)
	}
	for _, more := range []string{"x 1 2 b\n", "x 1 2 b\nx\n", "x 1 2 b", "x", "\n", "m0 1 50 b\n"} {
		wantWrong(t, most+more, 64)
	}
}

// 7.4: a text of MaxText bytes is read, and is none; a longer one is too long.
func TestParseLong(t *testing.T) {
	for _, c := range []struct {
		filler string
		line   int
	}{
		{"1", 0}, {" ", 0}, {"\n", 0}, {"m 1 2 b\n", 1}, {"\xff", 0}, {"m 1 \n", 0}, {"m 1 2 b\nn 1 2 b\n", 2}, {"m ", 0}, {"m", 0},
	} {
		s := strings.Repeat(c.filler, api.MaxText/len(c.filler)+1)
		wantWrong(t, s[:api.MaxText], c.line)
		g, line, e := gear.Parse(s[:api.MaxText+1])
		if len(g) > 0 || line != 0 || e != api.ErrLong {
			t.Errorf("Parse of %q: %v, line %d, error %d", c.filler, g, line, e)
		}
	}
}

// P7.6 and R8.
func TestRoundTrip(t *testing.T) {
	r := random()
	for range 500 {
		g := randomGear(r, r.IntN(65), []int{12, 1_000_000}[r.IntN(2)])
		got, line, e := gear.Parse(gear.Format(g))
		if !slices.Equal(got, g) || line != 0 || e != api.OK {
			t.Fatalf("Parse(Format(%v)) = %v, line %d, error %d", g, got, line, e)
		}
	}
}

// 7.4: no other text is read: one with a byte changed is that of other gear, or its first wrong line is told.
func TestParseOthers(t *testing.T) {
	r := random()
	const marks = "0123456789 -\nmab_X"
	read := 0
	for range 5000 {
		s := []byte(gear.Format(randomGear(r, 1+r.IntN(4), 120)))
		s[r.IntN(len(s))] = marks[r.IntN(len(marks))]
		g, line, e := gear.Parse(string(s))
		if e == api.OK {
			read++
			if line != 0 || gear.Format(g) != string(s) || !gear.Valid(g) {
				t.Fatalf("Parse(%q) = %v, line %d", s, g, line)
			}
			continue
		}
		if e != api.ErrSyntax || len(g) > 0 {
			t.Fatalf("Parse(%q) = %v, error %d", s, g, e)
		}
		checkWrongLine(t, string(s), line)
	}
	if read < 500 || read > 4500 {
		t.Errorf("%d of 5000 texts are read", read)
	}
}

// checkWrongLine checks that the lines before one are a text, and that they are none with it.
func checkWrongLine(t *testing.T, s string, line int) {
	t.Helper()
	lines := strings.SplitAfter(s, "\n")
	if line >= len(lines) {
		t.Fatalf("Parse(%q): line %d", s, line)
	}
	_, _, before := gear.Parse(strings.Join(lines[:line], ""))
	_, _, with := gear.Parse(strings.Join(lines[:line+1], ""))
	if before != api.OK || with != api.ErrSyntax {
		t.Fatalf("Parse(%q): line %d", s, line)
	}
}
