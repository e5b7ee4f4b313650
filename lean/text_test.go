package lean_test

import (
	"slices"
	"strings"
	"testing"

	"steeplejack/api"
	"steeplejack/lean"
)

// 1.4
func TestFormat(t *testing.T) {
	for _, c := range []struct {
		l    []api.Mark
		want string
	}{
		{mks(0, 1, 2, 10, 3, -4), "0 1 2\n10 3 -4\n"},
		{mks(0, 0, 0), "0 0 0\n"},
		{mks(200000, -10000, 10000), "200000 -10000 10000\n"},
		{nil, ""},
		{mks(0, 10001, 0), ""},
		{mks(5, 0, 0, 5, 0, 0), ""},
		{marks(41), ""},
	} {
		if s := lean.Format(c.l); s != c.want {
			t.Errorf("Format(%v) = %q", c.l, s)
		}
	}
}

func lines(n int) string {
	var l []api.Mark
	for i := range n {
		l = append(l, api.Mark{Height: i})
	}
	var b strings.Builder
	for i := range l {
		b.WriteString(lean.Format(l[i : i+1]))
	}
	return b.String()
}

func TestParse(t *testing.T) {
	for _, c := range []struct {
		s    string
		want []api.Mark
	}{
		{"0 1 2\n10 3 -4\n", mks(0, 1, 2, 10, 3, -4)},
		{"7 0 0\n", mks(7, 0, 0)},
		{"200000 -10000 10000\n", mks(200000, -10000, 10000)},
	} {
		if l, line, e := lean.Parse(c.s); e != api.OK || line != 0 || !slices.Equal(l, c.want) {
			t.Errorf("Parse(%q) = %v, line %d, error %d", c.s, l, line, e)
		}
	}
	if l, line, e := lean.Parse(lines(40)); e != api.OK || line != 0 || len(l) != 40 {
		t.Errorf("Parse of 40 lines = %v, line %d, error %d", l, line, e)
	}
}

func TestParseErrors(t *testing.T) {
	for _, c := range []struct {
		s    string
		line int
	}{
		{"", 0},
		{"\n", 0},
		{"0 1 2", 0}, // no last line feed
		{"0 1 2\n1 1 2", 1},
		{"0 1 2\n1 1 2\n2", 2},
		{"0 1 2\n\n", 1},
		{"0 1\n", 0},
		{"0 1 2 3\n", 0},
		{"0  1 2\n", 0},
		{" 0 1 2\n", 0},
		{"0 1 2 \n", 0},
		{"0 1 2\r\n", 0},
		{"0\t1 2\n", 0},
		{"0 1 02\n", 0},
		{"00 1 2\n", 0},
		{"0 -0 2\n", 0},
		{"0 +1 2\n", 0},
		{"0 1_0 2\n", 0},
		{"0 0x1 2\n", 0},
		{"0 1.0 2\n", 0},
		{"0 --1 2\n", 0},
		{"0 - 2\n", 0},
		{"0 ٣ 2\n", 0},
		{"0 18446744073709551617 2\n", 0},
		{"-1 1 2\n", 0},
		{"200001 1 2\n", 0},
		{"0 10001 2\n", 0},
		{"0 1 -10001\n", 0},
		{"5 1 2\n5 1 2\n", 1},
		{"5 1 2\n4 1 2\n", 1},
		{"5 1 2\n6 1 2\n7 1 x\n8 1 y\n", 2},
		{"5 1 2\n6 1 10001\n7 1\n", 1},
		{lines(41), 40},
		{lines(50), 40},
		{lines(40) + "x", 40},
		{lines(40) + "\n", 40},
	} {
		if l, line, e := lean.Parse(c.s); e != api.ErrSyntax || line != c.line || len(l) != 0 {
			t.Errorf("Parse(%q) = %v, line %d, error %d", c.s, l, line, e)
		}
	}
}

func TestParseLong(t *testing.T) {
	if l, line, e := lean.Parse("0 1 2\n" + strings.Repeat("x", api.MaxText-5)); e != api.ErrLong || line != 0 || len(l) != 0 {
		t.Errorf("Parse = %v, line %d, error %d", l, line, e)
	}
	if l, line, e := lean.Parse("0 1 2\n" + strings.Repeat("x", api.MaxText-6)); e != api.ErrSyntax || line != 1 || len(l) != 0 {
		t.Errorf("Parse = %v, line %d, error %d", l, line, e)
	}
	if _, line, e := lean.Parse("0 1 2\n" + strings.Repeat("\n", api.MaxText-6)); e != api.ErrSyntax || line != 1 {
		t.Errorf("Parse: line %d, error %d", line, e)
	}
}

// P1.6 and R8
func TestRoundTrip(t *testing.T) {
	r := random()
	for range 200 {
		var l []api.Mark
		for _, p := range heap(r, 1+r.IntN(40), 10000) {
			l = append(l, api.Mark{Height: p.Height * 714, East: p.X, North: r.IntN(20001) - 10000})
		}
		m, line, e := lean.Parse(lean.Format(l))
		if e != api.OK || line != 0 || !slices.Equal(l, m) {
			t.Fatalf("Parse(Format(%v)) = %v, line %d, error %d", l, m, line, e)
		}
	}
}
