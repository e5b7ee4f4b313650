package job_test

import (
	"slices"
	"strconv"
	"strings"
	"testing"

	"steeplejack/api"
	"steeplejack/job"
)

// 9.4: Format, and Parse of it.
func TestTexts(t *testing.T) {
	for _, c := range []struct {
		l    []api.Task
		want string
	}{
		{example(), "a 2 1\nb 3 1 a\nc 1 1 a\n"},
		{house(), "paint 2 3 wall roof\nroof 4 2 wall\nwall 5 4 dig\ndig 3 2\nfence 6 1\ngate 1 1 fence dig\n"},
		{tasks("a:1:1"), "a 1 1\n"},
		{tasks("abcdefghijklmnop:1000:16 z_0:10:10:abcdefghijklmnop"), "abcdefghijklmnop 1000 16\nz_0 10 10 abcdefghijklmnop\n"},
	} {
		if s := job.Format(c.l); s != c.want {
			t.Errorf("Format(%v) = %q", c.l, s)
		}
		l, line, e := job.Parse(c.want)
		wantTasks(t, "Parse", l, e, c.l, api.OK)
		want(t, "Parse's line", line, e, 0, api.OK)
	}
}

// wantWrong checks that a text is not read.
func wantWrong(t *testing.T, s string, line int, wantE api.Errno) {
	t.Helper()
	l, got, e := job.Parse(s)
	if len(l) > 0 || got != line || e != wantE {
		t.Errorf("Parse(%q) = %v, line %d, error %d, want line %d, error %d", s, l, got, e, line, wantE)
	}
}

// badLines are lines that no text has, wherever they stand.
var badLines = []string{
	"", " ", "  ", "   ", "x", "x ", "x 1", "x 1 ", "x  1", " x 1", " x 1 2", "x  1 2", "x 1  2", "x 1 2 ", "x 1 2  m", "x 1 2 m ", "x 1 2 m  m", " 1 2", "x\t1 2", "x 1\t2", "x 1 2\r", "x,1,2", "x\u00a01 2", "x 1 2\x00", "1 x", "X", "\xff", "\xff 1", "x y 2", "x 1 y", "x y z m", "x 1 m 2", "x m 1 2",
	"x -1 2", "x 01 2", "x 00 2", "x +1 2", "x -0 2", "x 1.0 2", "x 1e2 2", "x 0x1 2", "x 1_0 2", "x ١ 2", "x - 2", "x 1000000001 2", "x 2000000000 2", "x 9223372036854775807 2", "x 9223372036854775808 2", "x 18446744073709551617 2", "x -9223372036854775808 2",
	"x 1 -1", "x 1 02", "x 1 00", "x 1 +2", "x 1 -0", "x 1 2.0", "x 1 1e2", "x 1 0x2", "x 1 2_0", "x 1 ٢", "x 1 -", "x 1 1000000001", "x 1 9223372036854775807", "x 1 9223372036854775808", "x 1 18446744073709551618", "x 1 -9223372036854775808", "x 1 02 m", "x 01 2 m", "x 1 2\tm",
}

// 9.4: the number of the first line that is none of a text.
func TestParseErrors(t *testing.T) {
	for _, bad := range badLines {
		wantWrong(t, bad+"\n", 0, api.ErrSyntax)
		wantWrong(t, bad+"\nm 1 2\n", 0, api.ErrSyntax)
		wantWrong(t, "m 1 2\n"+bad+"\n", 1, api.ErrSyntax)
		wantWrong(t, "m 1 2\nn 3 4 m\n"+bad+"\no 1 2\n", 2, api.ErrSyntax)
		wantWrong(t, "m 1 2\nn 3 4 m\n"+bad+"\n"+bad, 2, api.ErrSyntax)
		// What is wrong by Check waits for all lines.
		wantWrong(t, "M 1 2\nn 3 4 x\n"+bad+"\no 1 2\n", 2, api.ErrSyntax)
		wantWrong(t, strings.Repeat("m 1 2\n", 30)+bad+"\n", 30, api.ErrSyntax)
		if bad != "" {
			wantWrong(t, "m 1 2\n"+bad, 1, api.ErrSyntax)
		}
		wantWrong(t, bad, 0, api.ErrSyntax)
	}
	wantWrong(t, "m 1 2", 0, api.ErrSyntax)
	wantWrong(t, "m 1 2\nn 3 4 m", 1, api.ErrSyntax)
	wantWrong(t, "m 1 2\n\nn 3 4\n", 1, api.ErrSyntax)
	wantWrong(t, "m 1 2\nn 3 4\n\n", 2, api.ErrSyntax)
	wantWrong(t, "m 1 2\r\nn 3 4\r\n", 0, api.ErrSyntax)
	wantWrong(t, "M 1 2\nm 1 2", 1, api.ErrSyntax)
}

// 9.4: texts whose lines are right, of plans that are not valid: Check's error, with the line 0.
func TestParseInvalid(t *testing.T) {
	for _, c := range []struct {
		s    string
		want api.Errno
	}{
		{"m 0 1\n", api.ErrInvalid}, {"m 1 0\n", api.ErrInvalid}, {"m 1001 1\n", api.ErrInvalid}, {"m 1 17\n", api.ErrInvalid}, {"m 1000000000 1\n", api.ErrInvalid}, {"m 1 1000000000\n", api.ErrInvalid}, {"m 0 0\n", api.ErrInvalid},
		{"M 1 2\n", api.ErrInvalid}, {"x\ty 1 2\n", api.ErrInvalid}, {"\xff 1 2\n", api.ErrInvalid}, {"\r 1 2\n", api.ErrInvalid}, {"1 1 2\n", api.ErrInvalid}, {"0 1 2\n", api.ErrInvalid}, {"abcdefghijklmnopq 1 2\n", api.ErrInvalid}, {"m 1 2\nn 1 2 m\nx 1001 2 m\n", api.ErrInvalid},
		{"m 1 2\nm 1 2\n", api.ErrDuplicate}, {"m 1 2\nn 1 2\nm 3 4\nx 0 0\n", api.ErrDuplicate},
		{"m 1 2" + strings.Repeat(" x", 11) + "\n", api.ErrLimit}, {strings.Repeat("m 1 2\n", 21), api.ErrLimit}, {strings.Repeat("M 0 0 x\n", 8_000), api.ErrLimit},
		{"m 1 2 x\n", api.ErrName}, {"m 1 2\nn 1 2 m M\n", api.ErrName}, {"m 1 2\nn 1 2 m m\r\n", api.ErrName}, {"m 1 2\nn 1 2 1\n", api.ErrName},
		{"m 1 2\nn 1 2 m m\n", api.ErrDuplicate}, {"m 1 2 m\n", api.ErrState}, {"m 1 2 n\nn 1 2 m\n", api.ErrState},
	} {
		wantWrong(t, c.s, 0, c.want)
	}
	for _, x := range wrongPlans()[1:] {
		var b strings.Builder
		for _, y := range x.l {
			b.WriteString(lineOf(y))
		}
		wantWrong(t, b.String(), 0, x.e)
	}
}

// lineOf is a task's line.
func lineOf(x api.Task) string {
	return strings.Join(append([]string{x.Name, strconv.Itoa(x.Days), strconv.Itoa(x.Men)}, x.After...), " ") + "\n"
}

// 9.4: a text of MaxText bytes is asked line by line; a longer one is too long.
func TestParseLong(t *testing.T) {
	for _, c := range []struct {
		filler string
		line   int
		e      api.Errno
	}{
		{"1", 0, api.ErrSyntax}, {" ", 0, api.ErrSyntax}, {"\n", 0, api.ErrSyntax}, {"\xff", 0, api.ErrSyntax}, {"m ", 0, api.ErrSyntax}, {"m 1 2\n", api.MaxText / 6, api.ErrSyntax}, {"m 1 23\n", api.MaxText / 7, api.ErrSyntax}, {"m 1 234\n", 0, api.ErrLimit}, {"m 1 2 m m m m m\n", 0, api.ErrLimit},
	} {
		s := strings.Repeat(c.filler, api.MaxText/len(c.filler)+1)
		wantWrong(t, s[:api.MaxText], c.line, c.e)
		wantWrong(t, s[:api.MaxText+1], 0, api.ErrLong)
	}
}

// P9.6 and R8.
func TestRoundTrip(t *testing.T) {
	r := random()
	plans := [][]api.Task{example(), house(), dense(), row(20, 1_000, 16)}
	for range 500 {
		plans = append(plans, randomTasks(r, 1+r.IntN(20), 1_000, 16))
	}
	for _, l := range plans {
		got, line, e := job.Parse(job.Format(l))
		if !sameTasks(got, l) || line != 0 || e != api.OK {
			t.Fatalf("Parse(Format(%v)) = %v, line %d, error %d", l, got, line, e)
		}
	}
}

// 9.4: no other text is read: one with a byte changed is that of another plan, or what is wrong with it is told.
func TestParseOthers(t *testing.T) {
	r := random()
	const marks = "0123456789 -\nt_X"
	read, told := 0, map[api.Errno]int{}
	for range 10_000 {
		s := []byte(job.Format(randomTasks(r, 1+r.IntN(6), 120, 16)))
		s[r.IntN(len(s))] = marks[r.IntN(len(marks))]
		l, line, e := job.Parse(string(s))
		if e == api.OK {
			read++
			if line != 0 || job.Format(l) != string(s) || job.Check(l) != api.OK {
				t.Fatalf("Parse(%q) = %v, line %d", s, l, line)
			}
			continue
		}
		told[e]++
		if len(l) > 0 || line != slowLine(string(s)) || (line > 0 && e != api.ErrSyntax) {
			t.Fatalf("Parse(%q) = %v, line %d, error %d", s, l, line, e)
		}
	}
	if read < 1_000 || read > 9_000 {
		t.Errorf("%d of 10000 texts are read", read)
	}
	for _, e := range []api.Errno{api.ErrSyntax, api.ErrInvalid, api.ErrDuplicate, api.ErrName, api.ErrState} {
		if told[e] < 10 {
			t.Errorf("error %d is told %d times", e, told[e])
		}
	}
}

// slowLine is the first line of a text that has not the form of a task's, or 0 if all have it.
func slowLine(s string) int {
	lines := strings.SplitAfter(s, "\n")
	if last := len(lines) - 1; last > 0 && lines[last] == "" {
		lines = lines[:last]
	}
	for i, line := range lines {
		words := strings.Split(strings.TrimSuffix(line, "\n"), " ")
		if !strings.HasSuffix(line, "\n") || slices.Contains(words, "") || len(words) < 3 || !isDecimal(words[1]) || !isDecimal(words[2]) {
			return i
		}
	}
	return 0
}

// isDecimal reports whether a word is a number of at most nine digits.
func isDecimal(word string) bool {
	return len(word) < 10 && strings.Trim(word, "0123456789") == "" && (word == "0" || !strings.HasPrefix(word, "0"))
}
