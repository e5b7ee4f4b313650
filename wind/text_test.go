package wind_test

import (
	"slices"
	"strings"
	"testing"

	"steeplejack/api"
	"steeplejack/wind"
)

// 8.4: Format, and Parse of it.
func TestTexts(t *testing.T) {
	for _, c := range []struct {
		l    []int
		want string
	}{
		{nil, ""},
		{[]int{}, ""},
		{[]int{30, -1, 55}, "30 - 55"},
		{[]int{0}, "0"},
		{[]int{-1}, "-"},
		{[]int{200}, "200"},
		{[]int{-1, -1, 0, 10, 100, -1}, "- - 0 10 100 -"},
		{slices.Repeat([]int{200}, 2_000), strings.Repeat("200 ", 1_999) + "200"},
	} {
		if s := wind.Format(c.l); s != c.want {
			t.Errorf("Format(%v) = %q", c.l, s)
		}
		l, e := wind.Parse(c.want)
		wantList(t, "Parse", l, e, c.l, api.OK)
	}
}

// 8.4: other texts.
func TestParseErrors(t *testing.T) {
	for _, bad := range []string{
		" ", "x", "--", "-1", "-0", "-200", "+1", "+", "01", "00", "007", "201", "999", "1000", "1.0", "1e1", "0x1", "1_0", "1-", "-5", "5-", "١", "–", "−", "\n", "\t", "\r", "\x00", "\xff", "5\n", "\n5", "5\t5", "5,5", "5;5", "5\u00a05", "none", "5.", ".5",
		"18446744073709551616", "18446744073709551615", "9223372036854775807", "9223372036854775808", "-9223372036854775808", "-9223372036854775809", strings.Repeat("9", 100), strings.Repeat("0", 100),
	} {
		for _, s := range []string{bad, "30 " + bad, bad + " 30", "30 " + bad + " -", "- " + bad, bad + " -", bad + " " + bad} {
			l, e := wind.Parse(s)
			wantList(t, "Parse of "+s, l, e, nil, api.ErrSyntax)
		}
	}
	for _, bad := range []string{" 30", "30 ", "30  55", "30 - 55 ", " 30 - 55", "30 -  55", "30  - 55", "- ", " -", "30 - 55\n", "30\n- 55", strings.Repeat("0 ", 2_000) + "0", strings.Repeat("- ", 2_000)} {
		l, e := wind.Parse(bad)
		wantList(t, "Parse of "+bad, l, e, nil, api.ErrSyntax)
	}
}

// 8.4: a text of MaxText bytes is read, and is none; a longer one is too long.
func TestParseLong(t *testing.T) {
	for _, filler := range []string{"1", " ", "\n", "- ", "-", "5 ", "200 ", "\xff"} {
		s := strings.Repeat(filler, api.MaxText/len(filler)+1)
		l, e := wind.Parse(s[:api.MaxText])
		wantList(t, "Parse", l, e, nil, api.ErrSyntax)
		l, e = wind.Parse(s[:api.MaxText+1])
		wantList(t, "Parse", l, e, nil, api.ErrLong)
	}
}

// P8.6 and R8.
func TestRoundTrip(t *testing.T) {
	r := random()
	for range 500 {
		l := make([]int, r.IntN(2_001))
		for i := range l {
			l[i] = r.IntN(202) - 1
		}
		got, e := wind.Parse(wind.Format(l))
		wantList(t, "Parse", got, e, l, api.OK)
	}
}

// 8.4: no other text is read: one with a byte changed is that of other gusts, or none.
func TestParseOthers(t *testing.T) {
	r := random()
	const marks = "0123456789 -+\nx"
	read := 0
	for range 5000 {
		l := make([]int, 1+r.IntN(5))
		for i := range l {
			l[i] = r.IntN(202) - 1
		}
		s := []byte(wind.Format(l))
		s[r.IntN(len(s))] = marks[r.IntN(len(marks))]
		got, e := wind.Parse(string(s))
		if e == api.OK {
			read++
			if wind.Format(got) != string(s) || !wind.ValidGusts(got) {
				t.Fatalf("Parse(%q) = %v", s, got)
			}
			continue
		}
		wantList(t, "Parse", got, e, nil, api.ErrSyntax)
	}
	if read < 500 || read > 4500 {
		t.Errorf("%d of 5000 texts are read", read)
	}
}
