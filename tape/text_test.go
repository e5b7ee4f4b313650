package tape_test

import (
	"slices"
	"strings"
	"testing"

	"steeplejack/api"
	"steeplejack/tape"
)

// 5.5: Format, and Parse of it.
func TestTexts(t *testing.T) {
	for _, c := range []struct {
		nodes int
		l     []api.Tape
		want  string
	}{
		{1, nil, "nodes 1\n"},
		{6, []api.Tape{}, "nodes 6\n"},
		{3, ring(), "nodes 3\ntape 0 1 1\ntape 1 2 2\ntape 0 2 3\n"},
		{6, tapes(4, 5, 60, 0, 5, 10), "nodes 6\ntape 4 5 60\ntape 0 5 10\n"},
		{2, sameTapes(10, 0, 1, 7), "nodes 2\n" + strings.Repeat("tape 0 1 7\n", 10)},
	} {
		if s := tape.Format(c.nodes, c.l); s != c.want {
			t.Errorf("Format(%d, %v) = %q", c.nodes, c.l, s)
		}
		n, l, line, e := tape.Parse(c.want)
		if n != c.nodes || !slices.Equal(l, c.l) || line != 0 || e != api.OK {
			t.Errorf("Parse(%q) = %d, %v, line %d, error %d", c.want, n, l, line, e)
		}
	}
	for _, x := range wrongNets() {
		if s := tape.Format(x.nodes, x.tapes); s != "" {
			t.Errorf("Format(%v) = %q", x, s)
		}
	}
}

// wantWrong checks that a text is none from a line on.
func wantWrong(t *testing.T, s string, want int) {
	t.Helper()
	n, l, line, e := tape.Parse(s)
	if n != 0 || len(l) > 0 || line != want || e != api.ErrSyntax {
		t.Errorf("Parse(%q) = %d, %v, line %d, error %d, want line %d", s, n, l, line, e, want)
	}
}

// 5.5: lines that no text has, wherever they stand.
func TestBadLines(t *testing.T) {
	for _, bad := range []string{
		"", " ", "x", "nodes", "nodes ", "nodes x", "nodes 0", "nodes 7", "nodes -1", "nodes 03", "nodes +3", "nodes 3 ", " nodes 3", "nodes  3", "nodes 3 3", "nodes\t3", "nodes 3\r", "nodes 3\x00",
		"Nodes 3", "node 3", "nodes3", "nodes 3.0", "nodes 0x3", "nodes 18446744073709551619", "nodes 3", "3", "tape", "tape ", "tape 0", "tape 0 1", "tape 0 1 ", "tape 0 1 1 ", " tape 0 1 1", "tape  0 1 1",
		"tape 0 1 1 1", "tape 0 1\t1", "tape 0 1 1\r", "tape 00 1 1", "tape 0 01 1", "tape 0 1 01", "tape +0 1 1", "tape -0 1 1", "tape 0 +1 1", "tape 0 1 +1", "tape 0 1 -1", "tape 0 1 0", "tape 0 1 61",
		"tape 0 3 1", "tape 1 1 1", "tape 2 1 1", "tape -1 1 1", "tape 0 1 x", "tape x 1 1", "tape 0 1 1_0", "tape 0 1 18446744073709551617", "tape 18446744073709551616 1 1", "tape 0 1 9223372036854775808",
		"tape 0 1 1e1", "tape,0,1,1", "TAPE 0 1 1", "tapes 0 1 1", "tape\u00a00 1 1", "tape 0 1 ١", "\xff", "tape 0 1 \xff", "0 1 1",
	} {
		if bad != "nodes 3" {
			wantWrong(t, bad+"\n", 0)
			wantWrong(t, bad+"\ntape 0 1 1\n", 0)
		}
		wantWrong(t, "nodes 3\n"+bad+"\n", 1)
		wantWrong(t, "nodes 3\n"+bad+"\ntape 0 1 1\n", 1)
		wantWrong(t, "nodes 3\ntape 0 1 1\n"+bad+"\n", 2)
		wantWrong(t, "nodes 3\ntape 0 1 1\n"+bad+"\n"+bad+"\n", 2)
		if bad != "" {
			wantWrong(t, bad, 0)
			wantWrong(t, "nodes 3\ntape 1 2 60\n"+bad, 2)
		}
	}
}

// 5.5: the number of the first line with which no text begins.
func TestParseErrors(t *testing.T) {
	wantWrong(t, "", 0)
	wantWrong(t, "\n", 0)
	wantWrong(t, "nodes 3", 0)
	wantWrong(t, "nodes 3\r\n", 0)
	wantWrong(t, "tape 0 1 1\n", 0)
	wantWrong(t, "tape 0 1 1\nnodes 3\n", 0)
	wantWrong(t, "nodes 1\ntape 0 1 1\n", 1)
	wantWrong(t, "nodes 3\ntape 0 1 1", 1)
	wantWrong(t, "nodes 3\ntape 0 1 1\ntape 0 2 1", 2)
	wantWrong(t, "nodes 3\n\n", 1)
	wantWrong(t, "nodes 3\ntape 0 1 1\n\ntape 0 2 1\n", 2)
	wantWrong(t, "nodes 2\nnodes 3\ntape 0 2 1\n", 1)
	wantWrong(t, "nodes 3\ntape 0 1 1\nnodes 3\n", 2)
	most := tape.Format(2, sameTapes(10, 0, 1, 60))
	for _, more := range []string{"tape 0 1 1\n", "tape 0 1 1\nx\n", "tape 0 1 1", "x", "\n", "nodes 2\n"} {
		wantWrong(t, most+more, 11)
	}
}

// 5.5: a text of MaxText bytes is read, and is none; a longer one is too long.
func TestParseLong(t *testing.T) {
	for _, c := range []struct {
		first, filler string
		line          int
	}{
		{"", "1", 0}, {"", " ", 0}, {"", "\n", 0}, {"nodes 2\n", "tape 0 1 1\n", 11}, {"nodes 2\n", "tape", 1}, {"nodes 2\n", "\xff", 1}, {"nodes ", "0", 0}, {"nodes 3\ntape ", "1 ", 1},
	} {
		s := c.first + strings.Repeat(c.filler, api.MaxText/len(c.filler)+1)
		wantWrong(t, s[:api.MaxText], c.line)
		n, l, line, e := tape.Parse(s[:api.MaxText+1])
		if n != 0 || len(l) > 0 || line != 0 || e != api.ErrLong {
			t.Errorf("Parse of %q: %d, %v, line %d, error %d", c.filler, n, l, line, e)
		}
	}
}

// P5.6 and R8.
func TestRoundTrip(t *testing.T) {
	r := random()
	for range 500 {
		x := randomNet(r, 10)
		n, l, line, e := tape.Parse(tape.Format(x.nodes, x.tapes))
		if n != x.nodes || !slices.Equal(l, x.tapes) || line != 0 || e != api.OK {
			t.Fatalf("Parse(Format(%v)) = %d, %v, line %d, error %d", x, n, l, line, e)
		}
	}
}

// 5.5: no other text is read: one with a byte changed is that of another net, or its first wrong line is told.
func TestParseOthers(t *testing.T) {
	r := random()
	const marks = "0123456789 -\nnodestape"
	read := 0
	for range 5000 {
		x := randomNet(r, 10)
		s := []byte(tape.Format(x.nodes, x.tapes))
		s[r.IntN(len(s))] = marks[r.IntN(len(marks))]
		n, l, line, e := tape.Parse(string(s))
		if e == api.OK {
			read++
			if line != 0 || tape.Format(n, l) != string(s) || !tape.Valid(n, l) {
				t.Fatalf("Parse(%q) = %d, %v, line %d", s, n, l, line)
			}
			continue
		}
		if e != api.ErrSyntax || n != 0 || len(l) > 0 {
			t.Fatalf("Parse(%q) = %d, %v, error %d", s, n, l, e)
		}
		checkWrongLine(t, string(s), line)
	}
	if read < 300 || read > 4700 {
		t.Errorf("%d of 5000 texts are read", read)
	}
}

// checkWrongLine checks that the lines before one are a text, if there are any, and that they are none with it.
func checkWrongLine(t *testing.T, s string, line int) {
	t.Helper()
	lines := strings.SplitAfter(s, "\n")
	if line >= len(lines) {
		t.Fatalf("Parse(%q): line %d", s, line)
	}
	_, _, _, before := tape.Parse(strings.Join(lines[:line], ""))
	_, _, _, with := tape.Parse(strings.Join(lines[:line+1], ""))
	if line > 0 && before != api.OK || with != api.ErrSyntax {
		t.Fatalf("Parse(%q): line %d", s, line)
	}
}
