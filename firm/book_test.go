package firm_test

import (
	"bytes"
	"slices"
	"strconv"
	"strings"
	"testing"

	"steeplejack/api"
	"steeplejack/firm"
)

// week is a script in which all commands succeed, and each stands.
const week = "gust 5\nday\ndog 0\ndog 1\nrig 0 beam:-1 sling_a:0 spare:0\nrig 1 sling_b:-1\nup 0 3\nup 1 2\ngust 49\nlift 0 0 7000\nlift 1 1\ndown 1 2\nstrike 1\nlook hook\ncall hemp2\nbill 0\ndown 0 1\ndown 0 2\ngust 60\ngust -1\nday\nstrike 0\nfell 0\nday\nbill 2\n"

func weekDone(t *testing.T) *firm.Firm {
	t.Helper()
	return done(t, setup(), week)
}

// 10.3: Lines and Bytes.
func TestLines(t *testing.T) {
	f := weekDone(t)
	lines := entries(notes("0:gust 5,1:day,1:dog 0,1:dog 1,1:rig 0 beam:-1 sling_a:0 spare:0,1:rig 1 sling_b:-1,1:up 0 3,1:up 1 2,1:gust 49,1:lift 0 0 7000,1:lift 1 1,1:down 1 2,1:strike 1,1:look hook,1:call hemp2,1:bill 0,1:down 0 1,1:down 0 2,1:gust 60,1:gust -1,2:day,2:strike 0,2:fell 0,3:day,3:bill 2"))
	want(t, "Lines", slices.Equal(f.Lines(), lines), true)
	want(t, "Bytes", string(f.Bytes()), string(bytesOf(lines)))
	first := done(t, setup(), "day")
	want(t, "the bytes of a day", string(first.Bytes()), "0 1 "+strconv.FormatUint(sum(0, 0, 1, "day"), 10)+" day\n")
	want(t, "the sum of a day", first.Lines()[0].Sum, 1337461991932629758)
}

// P10.5: the bytes make the firm again.
func TestReadAgain(t *testing.T) {
	f := weekDone(t)
	again := mustRead(t, setup(), f.Bytes())
	want(t, "Same", firm.Same(f, again), true)
	wantSight(t, "Read", again, lookAt(f))
	want(t, "the next commands", firm.Do(again, "rig 0 beam:-1\ncall hemp2\nmoney\n"), firm.Do(f, "rig 0 beam:-1\ncall hemp2\nmoney\n"))
	wantSight(t, "Read", again, lookAt(f))
	for _, none := range [][]byte{nil, {}, []byte("0"), []byte("torn")} {
		again, e := firm.Read(setup(), none)
		want(t, "Read of no lines", e, api.OK)
		want(t, "Same", firm.Same(mustNew(t, setup()), again), true)
	}
	// The same lines with another setup are another firm.
	other := with(func(x *firm.Setup) { x.Rate.Come = 7 })
	again = mustRead(t, other, f.Bytes())
	want(t, "Same of another setup", firm.Same(f, again), false)
	want(t, "Money of another setup", again.Money(), f.Money()-2*493)
}

// P10.5: each beginning of the bytes makes the firm of the lines that are whole.
func TestBeginnings(t *testing.T) {
	all := weekDone(t).Bytes()
	firms := []*firm.Firm{mustNew(t, setup())}
	texts := strings.Split(strings.TrimSpace(week), "\n")
	for i := range texts {
		firms = append(firms, done(t, setup(), strings.Join(texts[:i+1], "\n")))
	}
	for n := range len(all) + 1 {
		whole := bytes.Count(all[:n], []byte("\n"))
		f := mustRead(t, setup(), all[:n])
		if !firm.Same(f, firms[whole]) {
			t.Fatalf("the first %d bytes make another firm", n)
		}
		want(t, "Bytes", string(f.Bytes()), string(all[:bytes.LastIndexByte(all[:n], '\n')+1]))
	}
}

// 10.4: a torn line is dropped, whatever it is.
func TestTorn(t *testing.T) {
	whole := weekDone(t).Bytes()
	for _, torn := range []string{"x", " ", "24", "25", "25 3 ", "25 3 0 day", "24 3 5 day", "\x00", "\xff", "\r", strings.Repeat("9", 70_000)} {
		f := mustRead(t, setup(), append(slices.Clone(whole), torn...))
		want(t, "Same", firm.Same(f, weekDone(t)), true)
	}
}

// 10.4: a line that does not fit.
func TestChain(t *testing.T) {
	right := "1 2 " + strconv.FormatUint(sum(sum(0, 0, 1, "day"), 1, 2, "day"), 10) + " day"
	first := string(done(t, setup(), "day").Bytes())
	mustRead(t, setup(), []byte(first+right+"\n"))
	for _, bad := range []string{
		"", " ", "1", "1 2", "1 2 3", "1 2 3 ", "1 2 3 day", "day", right + " ", " " + right, right + "\r", "0" + right, "+" + right, "01" + right[1:], "-1" + right[1:], "0" + right[1:], "2" + right[1:], "x" + right[1:], right[1:],
		strings.Replace(right, " 2 ", " 02 ", 1), strings.Replace(right, " 2 ", " +2 ", 1), strings.Replace(right, " 2 ", " -2 ", 1), strings.Replace(right, " 2 ", " 1 ", 1), strings.Replace(right, " 2 ", "  2 ", 1), strings.Replace(right, " 2 ", " 2  ", 1), strings.Replace(right, " 2 ", " ", 1), strings.Replace(right, " 2 ", " x ", 1), strings.Replace(right, " 2 ", " 18446744073709551618 ", 1),
		strings.Replace(right, " 2 ", " 2 0", 1), strings.Replace(right, " 2 ", " 2 +", 1), strings.Replace(right, " 2 ", " 2 -", 1), strings.Replace(right, " day", "  day", 1), strings.Replace(right, " day", "", 1), strings.Replace(right, " day", " ", 1), strings.Replace(right, " day", "day", 1), strings.Replace(right, "day", "Day", 1), strings.Replace(right, " ", "\t", 1), strings.ReplaceAll(right, " ", "  "), strings.Replace(right, " ", "\r ", 1),
		"1 2 18446744073709551616 day", "1 2 99999999999999999999999 day", "1 2 -1 day",
	} {
		for _, rest := range []string{"", right + "\n", "2 2 5 day\n", "torn"} {
			f, e := firm.Read(setup(), []byte(first+bad+"\n"+rest))
			if f != nil || e != api.ErrChain {
				t.Errorf("Read with the line %q: %v, error %d", bad, f, e)
			}
		}
		if bad != "" {
			mustRead(t, setup(), []byte(first+bad))
		}
	}
}

// 10.4: lines with right sums that have not the form of one.
func TestForm(t *testing.T) {
	for _, c := range []struct {
		day  int
		text string
		e    api.Errno
	}{
		{1, "day", api.OK}, {1, "", api.ErrChain}, {-1, "day", api.ErrChain}, {100_001, "day", api.ErrChain}, {1 << 40, "day", api.ErrChain}, {100_000, "day", api.ErrState}, {0, "day", api.ErrState}, {2, "day", api.ErrState},
		{1, " ", api.ErrState}, {1, "day ", api.ErrState}, {1, " day", api.ErrState}, {1, "Day", api.ErrState}, {1, "\x00", api.ErrState}, {1, "day\r", api.ErrState}, {0, "gust 201", api.ErrState}, {0, "gust 05", api.ErrState}, {0, "now", api.ErrState}, {0, "goes", api.ErrState}, {0, "aloft 0", api.ErrState},
		{0, "look none", api.ErrState}, {0, "look ", api.ErrState}, {0, "call A", api.ErrState}, {0, "call ", api.ErrState}, {0, "rig 0", api.ErrState}, {0, "lift 0", api.ErrState}, {0, "rig 9 beam:-1", api.ErrState}, {0, strings.Repeat("x", 100_000), api.ErrState}, {1, "gust 5", api.ErrState}, {0, "gust 5", api.OK}, {0, "gust -1", api.OK},
	} {
		l := bytesOf(entries([]note{{c.day, c.text}}))
		f, e := firm.Read(setup(), l)
		if e != c.e || (f == nil) != (e != api.OK) {
			t.Errorf("Read of %q: error %d, want %d", l, e, c.e)
		}
		if e == api.OK {
			want(t, "Bytes", string(f.Bytes()), string(l))
		}
	}
	// The hash is over numbers without signs and zeros only; a line with others has its own sum, and is none.
	for _, number := range []string{"00", "+0", "-0", "", "1"} {
		x := entries([]note{{1, "day"}})[0]
		l := number + " 1 " + strconv.FormatUint(x.Sum, 10) + " day\n"
		_, e := firm.Read(setup(), []byte(l))
		want(t, "Read of "+l, e, api.ErrChain)
	}
}

// 10.4: the first line with an error decides; only then what the commands do.
func TestReadErrors(t *testing.T) {
	most := slices.Repeat([]note{{0, "bill 0"}}, 2_000)
	lines := entries(most)
	read := func(x firm.Setup, l []byte) api.Errno {
		f, e := firm.Read(x, l)
		if (f == nil) != (e != api.OK) {
			t.Errorf("Read: %v, error %d", f, e)
		}
		return e
	}
	want(t, "the most lines", read(setup(), bytesOf(lines)), api.OK)
	more := entries(slices.Repeat([]note{{0, "bill 0"}}, 2_002))
	want(t, "a line more", read(setup(), bytesOf(more[:2_001])), api.ErrLimit)
	want(t, "two lines more", read(setup(), bytesOf(more)), api.ErrLimit)
	want(t, "a torn line more", read(setup(), bytes.TrimSuffix(bytesOf(more[:2_001]), []byte("\n"))), api.OK)
	want(t, "a line more, and one that does not fit", read(setup(), append(bytesOf(more[:2_001]), "x\n"...)), api.ErrLimit)
	want(t, "a line more that does not fit", read(setup(), append(bytesOf(lines), "2000 0 5 bill 0\n"...)), api.ErrChain)
	odd := slices.Clone(more[:2_001])
	odd[1_999].Sum++
	want(t, "one that does not fit, and a line more", read(setup(), bytesOf(odd)), api.ErrChain)
	fails := slices.Repeat([]note{{0, "bill 9"}}, 2_001)
	want(t, "commands that fail", read(setup(), bytesOf(entries(fails[:2_000]))), api.ErrState)
	want(t, "commands that fail, and a line more", read(setup(), bytesOf(entries(fails))), api.ErrLimit)
	want(t, "commands that fail, and a line that does not fit", read(setup(), append(bytesOf(entries(fails[:3])), "\n"...)), api.ErrChain)
	last := append(slices.Clone(most[:1_999]), note{0, "strike 0"})
	want(t, "the last command fails", read(setup(), bytesOf(entries(last))), api.ErrState)
	for _, x := range wrongSetups() {
		for _, l := range [][]byte{nil, bytesOf(lines[:2]), []byte("x\n"), bytesOf(more), bytesOf(entries(fails[:2]))} {
			want(t, "Read with a wrong setup", read(x, l), api.ErrInvalid)
		}
	}
}

// 10.4: a command that would fail, or would make a line of another day.
func TestOtherLines(t *testing.T) {
	for _, c := range []struct {
		words string
		e     api.Errno
	}{
		{"0:dog 0,0:up 0 2,0:gust 49", api.OK},
		{"0:dog 0,0:up 0 2,0:gust 50", api.ErrState},
		{"0:dog 0,0:up 0 2,1:day", api.ErrState},
		{"0:dog 0,0:dog 0", api.ErrState},
		{"1:dog 0", api.ErrState},
		{"1:day,0:dog 0", api.ErrState},
		{"1:day,2:day,2:dog 0", api.OK},
		{"1:day,3:day", api.ErrState},
		{"0:up 0 2", api.ErrState},
		{"0:rig 0 beam:-1,0:rig 0 beam:-1", api.ErrState},
		{"0:rig 0 beam:-1,0:strike 0,0:rig 0 beam:-1", api.OK},
		{"0:call old,0:rig 0 hook:-1", api.ErrState},
		{"0:call old,0:look hook,0:call old", api.ErrState},
	} {
		_, e := firm.Read(setup(), bytesOf(entries(notes(c.words))))
		want(t, "Read of "+c.words, e, c.e)
	}
}

// P10.5: a byte that is changed shows.
func TestChangedBytes(t *testing.T) {
	all := weekDone(t).Bytes()
	r := random()
	for i, b := range all {
		if b == '\n' {
			continue
		}
		for _, other := range []byte{b + 1, b - 1, b ^ 0x80, ' ', '0', '9', 'a', ':', byte(r.IntN(256))} {
			if other == b || other == '\n' {
				continue
			}
			l := slices.Clone(all)
			l[i] = other
			if f, e := firm.Read(setup(), l); f != nil || e != api.ErrChain {
				t.Fatalf("the byte %d from %q to %q: error %d", i, b, other, e)
			}
		}
	}
	for i, b := range all[:len(all)-1] {
		l := slices.Delete(slices.Clone(all), i, i+1)
		if _, e := firm.Read(setup(), l); e != api.ErrChain {
			t.Fatalf("without the byte %d, %q: error %d", i, b, e)
		}
	}
}

// P10.5: a Text that is changed together with all sums behind it is what the commands make of it.
func TestChangedTexts(t *testing.T) {
	texts := notes("0:gust 5,0:dog 0,0:up 0 3,0:down 0 3,1:day")
	for _, c := range []struct {
		i    int
		text string
		e    api.Errno
	}{{0, "gust 6", api.OK}, {0, "gust 60", api.ErrState}, {1, "dog 1", api.ErrState}, {2, "up 0 2", api.ErrState}, {2, "up 0 4", api.ErrState}, {2, "up 0 5", api.OK}, {3, "down 0 5", api.ErrState}, {4, "gust 5", api.ErrState}} {
		l := slices.Clone(texts)
		l[c.i].text = c.text
		if c.text == "up 0 5" {
			l[3].text = "down 0 5"
		}
		_, e := firm.Read(setup(), bytesOf(entries(l)))
		want(t, "Read with "+c.text, e, c.e)
	}
}
