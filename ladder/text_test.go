package ladder_test

import (
	"slices"
	"strings"
	"testing"

	"steeplejack/api"
	"steeplejack/ladder"
)

// 3.5: Format, and Parse of it.
func TestTexts(t *testing.T) {
	for _, c := range []struct {
		l    []api.Joint
		want string
	}{
		{nil, ""},
		{[]api.Joint{}, ""},
		{js(10, -20, 30), "10 20! 30"},
		{js(1), "1"},
		{js(-1), "1!"},
		{js(-9, -10, 200_000), "9! 10! 200000"},
		{js(-200_000), "200000!"},
	} {
		if s := ladder.Format(c.l); s != c.want {
			t.Errorf("Format(%v) = %q", c.l, s)
		}
		if l, e := ladder.Parse(c.want); !slices.Equal(l, c.l) || e != api.OK {
			t.Errorf("Parse(%q) = %v, error %d", c.want, l, e)
		}
	}
	for _, l := range wrongJoints() {
		if s := ladder.Format(l); s != "" {
			t.Errorf("Format(%v) = %q", l, s)
		}
	}
}

// 3.5: texts that are not such.
func TestParseErrors(t *testing.T) {
	most := ladder.Format(rows(200, 1))
	if l, e := ladder.Parse(most); e != api.OK || len(l) != 200 {
		t.Errorf("Parse = %v, error %d", l, e)
	}
	for _, s := range []string{
		" ", "\n", "!", "-", "0", "0!", "x",
		"10 ", " 10", "10  20", "10\n", "10\n20", "10\t20", "10\r", "10,20", "10 20 ", "10! ", "10 !20", "10 20 !",
		"!10", "10!!", "1!0", "10 !", "10?", "10 x 30", "10 2x 30", "10.5", "1e3", "0x10", "1_000",
		"01", "010", "010!", "10 020", "00", "-10", "+10", "10 -20", "10 +20",
		"10 10", "20 10", "10! 10", "10 20 20!", "200001", "10 200001!", "1000000",
		"18446744073709551626", "10 18446744073709551636", "4294967306", "340282366920938463463374607431768211466",
		"1٣", "10 ٣٠", "10\u00a020", "１０", "10\x00", "\xff", "10\xff", "1\xed\xa0\x80", "10 \xc2",
		most + " 201", most + " 201!", most + " ", most + "!!",
	} {
		if l, e := ladder.Parse(s); e != api.ErrSyntax || len(l) != 0 {
			t.Errorf("Parse(%q) = %v, error %d", s, l, e)
		}
	}
}

// 3.5: a text of MaxText bytes is read, and is none; a longer one is too long.
func TestParseLong(t *testing.T) {
	for _, filler := range []string{"1", " ", "!", "1 ", "\xff", "0"} {
		s := strings.Repeat(filler, api.MaxText/len(filler))
		if l, e := ladder.Parse(s); e != api.ErrSyntax || len(l) != 0 {
			t.Errorf("Parse = %v, error %d", l, e)
		}
		if l, e := ladder.Parse(s + "1"); e != api.ErrLong || len(l) != 0 {
			t.Errorf("Parse = %v, error %d", l, e)
		}
	}
}

// P3.6 and R8.
func TestRoundTrip(t *testing.T) {
	r := random()
	for range 200 {
		l := randomJoints(r, r.IntN(201), 200+r.IntN(199_801))
		m, e := ladder.Parse(ladder.Format(l))
		if e != api.OK || !slices.Equal(l, m) {
			t.Fatalf("Parse(Format(%v)) = %v, error %d", l, m, e)
		}
	}
}

// 3.5: no other text is read: one with a byte changed is that of other joints, or none.
func TestParseOthers(t *testing.T) {
	r := random()
	const marks = "0123456789! -\n"
	read := 0
	for range 5000 {
		s := []byte(ladder.Format(randomJoints(r, 1+r.IntN(4), 120)))
		s[r.IntN(len(s))] = marks[r.IntN(len(marks))]
		l, e := ladder.Parse(string(s))
		if e == api.OK && (ladder.Format(l) != string(s) || !ladder.ValidJoints(l)) || e != api.OK && (e != api.ErrSyntax || len(l) > 0) {
			t.Fatalf("Parse(%q) = %v, error %d", s, l, e)
		}
		if e == api.OK {
			read++
		}
	}
	if read < 500 || read > 4500 {
		t.Errorf("%d of 5000 texts are read", read)
	}
}
