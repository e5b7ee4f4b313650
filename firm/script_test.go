package firm_test

import (
	"strconv"
	"strings"
	"testing"

	"steeplejack/api"
	"steeplejack/firm"
)

// 10.5: queries.
func TestQueries(t *testing.T) {
	play(t, setup(), `
		now = 0
		money = 0
		goes = yes
		height 0 = 3500
		height 1 = 2000
		height 2 = 4000
		safe 0 = 3145 2
		safe 1 = 18 0
		safe 2 = error 8
		bears 0 = error 10
		bears 4 = error 10
		dog 0 = ok
		dog 1 = ok
		bears 0 = 2000
		bears 1 = error 8
		up 0 3 = ok
		aloft 0 = 3
		aloft 1 = 0
		down 0 3 = ok
		fell 0 = ok
		bears 0 = error 10
		height 0 = 3500
		safe 0 = 3145 2
		aloft 0 = 0
		bill 0 = ok
		money = 1000
		day = ok
		now = 1
		gust 50 = ok
		goes = no
		bears 0 = error 10
		safe 1 = 18 0
	`)
	f := mustNew(t, setup())
	for _, name := range []string{"aloft", "height", "safe", "bears"} {
		for _, number := range []string{"5", "-1", "8", "1000000000000000", "-1000000000000000"} {
			want(t, name+" of no stack", firm.Do(f, name+" "+number), "error 5\n")
		}
		for _, word := range []string{"", " ", " 00", " +0", " -0", " x", "  0", " 0 ", " 0 0", "\t0", " 1000000000000001", " -1000000000000001", " 1e0", " 0x0", " 1_0"} {
			want(t, name+word, firm.Do(f, name+word), "error 14\n")
		}
	}
	for _, line := range []string{"now 0", "now ", "money 0", "goes 0", " now", "Now", "NOW", "now\r", "now\t", "lines", "gear", "aloft0", "felled 0", "nowgoes", "now now"} {
		want(t, line, firm.Do(f, line), "error 14\n")
	}
}

// 10.5: what a script prints.
func TestDo(t *testing.T) {
	for _, c := range []struct{ script, want string }{
		{"", ""},
		{"\n", ""},
		{"\n\n\n", ""},
		{"now", "0\n"},
		{"now\n", "0\n"},
		{"now\n\n", "0\n"},
		{"\nnow\n\n\ngoes\n\n", "0\nyes\n"},
		{"day\nday\nnow", "ok\nok\n2\n"},
		{" ", "error 14\n"},
		{"x", "error 14\n"},
		{"x\ny\n", "error 14\nerror 14\n"},
		{"rig 0 hook:-1\nrig 0 hook:-1\nrig 0 beam:-1\nstrike 0\nrig 1 hook:-1", "0\nerror 12\n1\nok\n2\n"},
		{"day\r\nday", "error 14\nok\n"},
		{"up 0 2\ndog 0\nup 0 2\ngust 60\ndown 0 1\ndown 0 2\ngust 60\nup 0 2\ngoes\n", "error 10\nok\nok\nerror 11\nerror 10\nok\nok\nerror 11\nno\n"},
	} {
		want(t, c.script, firm.Do(mustNew(t, setup()), c.script), c.want)
	}
}

// 10.5 and Details: Do of none, and of a script that is too long.
func TestDoErrors(t *testing.T) {
	for _, none := range nobody() {
		for _, script := range []string{"", "day", "x\n", "now\nnow\n", strings.Repeat("\n", api.MaxText+1)} {
			want(t, "Do of none", firm.Do(none, script), "error 1\n")
		}
	}
	for _, filler := range []string{"\n", "day\n", "now\n", "x", "gust 5\n"} {
		script := strings.Repeat(filler, api.MaxText/len(filler)+1)
		f := mustNew(t, setup())
		want(t, "Do of a long script", firm.Do(f, script[:api.MaxText+1]), "error 3\n")
		want(t, "Lines", len(f.Lines()), 0)
		printed := firm.Do(f, script[:api.MaxText])
		want(t, "Do of the longest script", strings.Contains(printed, "error 3"), false)
	}
	f := mustNew(t, setup())
	want(t, "empty lines", firm.Do(f, strings.Repeat("\n", api.MaxText-3)+"day"), "ok\n")
	want(t, "Now", f.Now(), 1)
}

// Details: which lines are Texts. A command's errors show that it was read.
func TestTexts(t *testing.T) {
	for line, printed := range map[string]string{
		"gust 0": "ok", "gust 200": "ok", "gust -1": "ok", "gust -2": "error 7", "gust 1000000000000000": "error 7", "gust -1000000000000000": "error 7",
		"day": "ok", "dog 0": "ok", "dog -1": "error 5", "dog 1000000000000000": "error 5",
		"rig 0 beam:-1": "0", "rig 0 beam:-1 hook:0 spare:1": "0", "rig 0 beam:1000000000000000": "error 1", "rig 0 beam:-1000000000000000": "error 1", "rig 0 Beam:-1": "error 1", "rig 0 -:-1": "error 1", "rig 0 \t:-1": "error 1", "rig 0 \xff:-1": "error 1", "rig 9 x:5": "error 5", "rig -9 é:5": "error 5", "rig 0" + strings.Repeat(" m:0", 16_000): "error 1",
		"strike 0": "error 5", "strike -5": "error 5", "up 0 2": "error 10", "up 0 -1000000000000000": "error 7", "down 0 2": "error 10", "down 0 1000000000000000": "error 7",
		"lift 0 1": "error 5", "lift 0 -1 1000000000000000 0": "error 5", "lift -1 5": "error 5", "lift 0" + strings.Repeat(" 7", 30_000): "error 5",
		"look hook": "ok", "look none": "error 5", "look a:b": "error 5", "look 7": "error 5", "look \t": "error 5", "look \xff\x00": "error 5", "look look": "error 5", "look " + strings.Repeat("a", 60_000): "error 5",
		"call a": "ok", "call call": "ok", "call A": "error 1", "call a:b": "error 1", "call 7": "error 1", "call \t": "error 1", "call " + strings.Repeat("a", 60_000): "error 1",
		"look ": "error 5", "call ": "error 1",
		"fell 0": "ok", "fell 5": "error 5", "bill 0": "ok", "bill 5": "error 5",
	} {
		want(t, line, firm.Do(mustNew(t, setup()), line), printed+"\n")
	}
	bad := []string{
		" ", "day ", " day", "day 0", "day day", "days", "Day", "DAY", "da", "day\t", "day\x00", "rig", "rig ", "rig 0", "rig 0 ", "rig beam:-1", "rig 0 beam", "rig 0 beam:", "rig 0 :-1", "rig 0 :", "rig 0 beam:-1 ", "rig 0  beam:-1", "rig 0 beam:-1 hook", "rig 0 beam:-1 hook: 0", "rig 0 beam :-1", "rig 0 beam:-1:0", "rig 0 beam::-1", "rig 0 beam:x",
		"lift", "lift ", "lift 0", "lift 0 ", "lift x 1", "lift 0 1 ", "lift 0  1", "lift 0 1 x", "lift 0 x 1", "look", "look a b", "look  a", "look a ", "call", "call a b", "call  a", "call a ", "Call a", "xcall a",
		"up", "up 0", "up 0 2 2", "up 0 2 ", "up  0 2", "up 0  2", "down 0", "down 0 2 2", "strike", "strike 0 0", "dog", "dog 0 0", "fell", "fell 0 0", "bill", "bill 0 0", "gust", "gust 5 5", "gust -",
	}
	for _, n := range []string{"", "x", "00", "01", "-0", "-01", "+1", "1.0", "1e1", "0x1", "1_0", "١", "1000000000000001", "-1000000000000001", "9223372036854775808", "18446744073709551616", "-9223372036854775809", strings.Repeat("9", 100), strings.Repeat("0", 100), "--1", "1-", "1\t", "\t1", "1\r"} {
		bad = append(bad, "gust "+n, "dog "+n, "strike "+n, "up 0 "+n, "up "+n+" 2", "down 0 "+n, "down "+n+" 2", "fell "+n, "bill "+n, "rig "+n+" beam:-1", "rig 0 beam:"+n, "rig 0 beam:-1 hook:"+n, "lift 0 "+n, "lift "+n+" 1", "lift 0 1 "+n+" 1")
	}
	f := done(t, setup(), "dog 0\nrig 0 hook:-1\nup 0 2")
	before := lookAt(f)
	for _, line := range bad {
		want(t, line, firm.Do(f, line), "error 14\n")
		_, e := firm.Read(setup(), bytesOf(entries([]note{{0, line}})))
		want(t, "Read of "+line, e, api.ErrState)
	}
	wantSight(t, "lines that are no commands", f, before)
}

// P10.6: scripts may be put together.
func TestScriptsTogether(t *testing.T) {
	r := random()
	for range 300 {
		x := randomSetup(r)
		script := strings.Join(randomLines(r, x, 60), "\n") + "\n"
		one, two := mustNew(t, x), mustNew(t, x)
		cut := strings.LastIndex(script[:r.IntN(len(script))+1], "\n") + 1
		first := firm.Do(two, script[:cut])
		want(t, "Do", first+firm.Do(two, script[cut:]), firm.Do(one, script))
		want(t, "Same", firm.Same(one, two), true)
	}
}

// 10.5: the numbers of all errors that commands have.
func TestErrorNumbers(t *testing.T) {
	f := done(t, setup(), "dog 0\nrig 0 beam:-1\nup 0 2")
	for line, e := range map[string]api.Errno{
		"call A": api.ErrInvalid, "call old": api.OK, "dog 9": api.ErrName, "up 0 1": api.ErrRange, "dog 4": api.ErrNone, "lift 0 1 1": api.ErrSize, "day": api.ErrState, "gust 60": api.ErrWind, "rig 1 beam:-1": api.ErrGear, "none": api.ErrCommand,
	} {
		printed := "ok\n"
		if e != api.OK {
			printed = "error " + strconv.Itoa(int(e)) + "\n"
		}
		want(t, line, firm.Do(f, line), printed)
	}
	want(t, "call old", firm.Do(f, "call old"), "error 6\n")
}
