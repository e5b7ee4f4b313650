package firm_test

import (
	"hash/fnv"
	"math"
	"math/rand/v2"
	"slices"
	"strconv"
	"strings"
	"testing"

	"steeplejack/api"
	"steeplejack/firm"
)

func number(word string) int {
	n, err := strconv.Atoi(word)
	if err != nil {
		panic(err)
	}
	return n
}

func numbers(words []string) []int {
	var l []int
	for _, word := range words {
		l = append(l, number(word))
	}
	return l
}

// courses makes courses of words HEIGHT:OUT:IN:WEIGHT:EAST:NORTH.
func courses(words string) []api.Course {
	var l []api.Course
	for w := range strings.FieldsSeq(words) {
		n := numbers(strings.Split(w, ":"))
		l = append(l, api.Course{Height: n[0], Out: n[1], In: n[2], Weight: n[3], East: n[4], North: n[5]})
	}
	return l
}

// joints makes joints of their heights; ! is behind those that are not sound.
func joints(words string) []api.Joint {
	var l []api.Joint
	for w := range strings.FieldsSeq(words) {
		height, bad := strings.CutSuffix(w, "!")
		l = append(l, api.Joint{Height: number(height), Sound: !bad})
	}
	return l
}

// items makes gear of words MARK:LOAD:DUE:BATCH.
func items(words string) []api.Item {
	var g []api.Item
	for w := range strings.FieldsSeq(words) {
		parts := strings.Split(w, ":")
		g = append(g, api.Item{Mark: parts[0], Load: number(parts[1]), Due: number(parts[2]), Batch: parts[3]})
	}
	return g
}

// links makes links of words MARK:FROM.
func links(words string) []api.Link {
	var r []api.Link
	for w := range strings.FieldsSeq(words) {
		mark, from, _ := strings.Cut(w, ":")
		r = append(r, api.Link{Mark: mark, From: number(from)})
	}
	return r
}

// The stacks of the setup.
const (
	sturdy  = "2000:900:500:5000:10:-20 1500:700:400:3000:30:5"
	light   = "2000:300:100:20:0:0" // it stands in the wind of a gust of 31, and not in that of 32
	leaning = "2000:400:0:1000:0:0 2000:400:0:1000:900:0"
)

// setup has five stacks: the last two have no right dogs, and the third does not stand.
func setup() firm.Setup {
	return firm.Setup{
		Stacks: [][]api.Course{courses(sturdy), courses(light), courses(leaning), courses(sturdy), courses(light)},
		Joints: [][]api.Joint{joints("12 25 33 60!"), joints("10 20 30 40"), joints("10 30"), joints("10 20 30! 40!"), nil},
		Climb:  api.Climb{First: 12, Gap: 20, Top: 50, Length: 39, Lap: 5, Strength: 1_000},
		Gear:   items("beam:10000:9:steel sling_a:3000:2:hemp1 sling_b:8000:1:hemp2 shackle:2000:0:steel hook:500:0:old spare:9000:500:hemp1"),
		Rule:   api.Rule{Stop: 50, Go: 40, Calm: 2},
		Rate:   api.Rate{Low: 100, High: 2_000, Above: 150, Come: 500},
		Men:    7,
	}
}

// with returns the setup with something changed.
func with(change func(x *firm.Setup)) firm.Setup {
	x := setup()
	change(&x)
	return x
}

// wild is numbers at which reckoning without care goes wrong.
var wild = []int{math.MinInt, math.MinInt + 1, -1_000_000_000_000_001, -2, -1, 0, 1, 2, 4, 5, 8, 15, 16, 17, 200, 201, 100_000, 1_000_000, 1_000_001, 1_000_000_000_000_000, math.MaxInt - 1, math.MaxInt}

// notNames are no marks, and no batches.
var notNames = []string{
	"", " ", "_", "0", "9a", "_a", "A", "Ab", "aB", "a-", "-a", "a b", "a ", " a", "a\n", "a\t", "a.", "a:", "a/", "a`", "`", "{", "a{", "a@", "a[", "a\x00", "\x00", "\xff", "a\xff",
	"é", "aé", "ａ", "а", "a\u0301", "a١", "abcdefghijklmnopq", strings.Repeat("a", 256),
}

// nobody is firms that are none.
func nobody() []*firm.Firm { return []*firm.Firm{nil, new(firm.Firm)} }

// random is the same numbers in each run.
func random() *rand.Rand { return rand.New(rand.NewPCG(10, 29)) }

// alike makes n items with Marks of their own that are alike otherwise.
func alike(n int) []api.Item {
	var g []api.Item
	for i := range n {
		g = append(g, api.Item{Mark: "m" + strconv.Itoa(i), Load: 1_000, Due: 50, Batch: "b"})
	}
	return g
}

// numbered makes n lines, each of a number of its own behind a word.
func numbered(n int, word string) string {
	var b strings.Builder
	for i := range n {
		b.WriteString(word + strconv.Itoa(i) + "\n")
	}
	return b.String()
}

// command does the command of a Text by its method.
func command(f *firm.Firm, text string) api.Errno {
	name, rest, _ := strings.Cut(text, " ")
	words := strings.Fields(rest)
	switch name {
	case "day":
		return f.Day()
	case "look":
		return f.Look(rest)
	case "call":
		return f.Call(rest)
	case "rig":
		return f.Rig(number(words[0]), links(strings.Join(words[1:], " ")))
	}
	n := numbers(words)
	switch name {
	case "gust":
		return f.Gust(n[0])
	case "dog":
		return f.Dog(n[0])
	case "strike":
		return f.Strike(n[0])
	case "up":
		return f.Up(n[0], n[1])
	case "down":
		return f.Down(n[0], n[1])
	case "lift":
		return f.Lift(n[0], n[1:])
	case "fell":
		return f.Fell(n[0])
	case "bill":
		return f.Bill(n[0])
	}
	panic("no command: " + text)
}

// isQuery reports whether a line asks something.
func isQuery(line string) bool {
	name, _, _ := strings.Cut(line, " ")
	return slices.Contains([]string{"now", "money", "goes", "aloft", "height", "safe", "bears"}, name)
}

// play does lines `TEXT = PRINTED` one by one, as scripts of a firm and by the methods of another one, and checks what is printed, and that both are the same in the end. It returns the firm.
func play(t *testing.T, x firm.Setup, lines string) *firm.Firm {
	t.Helper()
	f, twin := mustNew(t, x), mustNew(t, x)
	for line := range strings.SplitSeq(strings.Trim(lines, "\n\t "), "\n") {
		text, printed, ok := strings.Cut(strings.TrimSpace(line), " = ")
		if !ok {
			t.Fatalf("no line: %q", line)
		}
		before := lookAt(f)
		if got := firm.Do(f, text); got != printed+"\n" {
			t.Errorf("%s = %q, want %s", text, got, printed)
		}
		if isQuery(text) {
			wantSight(t, text, f, before)
			continue
		}
		var wantE api.Errno
		if code, failed := strings.CutPrefix(printed, "error "); failed {
			wantE = api.Errno(number(code))
			wantSight(t, text, f, before)
		}
		if e := command(twin, text); e != wantE {
			t.Errorf("%s: error %d, want %d", text, e, wantE)
		}
	}
	wantSight(t, "the twin", twin, lookAt(f))
	if !firm.Same(f, twin) {
		t.Error("two ways of the same commands: not the same firm")
	}
	return f
}

// sight is all that a firm tells.
type sight struct {
	now, money int
	goes       bool
	aloft      []int
	dogs       [][]int
	felled     []bool
	rigs       [][]api.Link
	gear       []api.Item
	back       []string
	lines      []api.Entry
	bytes      string
}

// lookAt asks a firm all; of stacks it asks the first ten numbers. It keeps copies, for lists that are not new memory may change.
func lookAt(f *firm.Firm) sight {
	s := sight{now: f.Now(), money: f.Money(), goes: f.Goes(), gear: slices.Clone(f.Gear()), back: slices.Clone(f.Back()), lines: slices.Clone(f.Lines()), bytes: string(f.Bytes())}
	for i := range 10 {
		s.aloft, s.dogs, s.felled = append(s.aloft, f.Aloft(i)), append(s.dogs, slices.Clone(f.Dogs(i))), append(s.felled, f.Felled(i))
	}
	for _, r := range f.Rigs() {
		s.rigs = append(s.rigs, slices.Clone(r))
	}
	return s
}

func sameSight(a, b sight) bool {
	return a.now == b.now && a.money == b.money && a.goes == b.goes && slices.Equal(a.aloft, b.aloft) &&
		slices.EqualFunc(a.dogs, b.dogs, slices.Equal) && slices.Equal(a.felled, b.felled) && slices.EqualFunc(a.rigs, b.rigs, slices.Equal) &&
		slices.Equal(a.gear, b.gear) && slices.Equal(a.back, b.back) && slices.Equal(a.lines, b.lines) && a.bytes == b.bytes
}

func wantSight(t *testing.T, what string, f *firm.Firm, want sight) {
	t.Helper()
	if got := lookAt(f); !sameSight(got, want) {
		t.Errorf("%s: the firm is %v, want %v", what, got, want)
	}
}

// sum is the hash of a line, as the library reckons it.
func sum(before uint64, number, day int, text string) uint64 {
	h := fnv.New64a()
	h.Write([]byte(strconv.FormatUint(before, 10) + " " + strconv.Itoa(number) + " " + strconv.Itoa(day) + " " + text))
	return h.Sum64()
}

// note is the Text of a line with the Day after it.
type note struct {
	day  int
	text string
}

// notes makes notes of words DAY:TEXT, separated by commas.
func notes(words string) []note {
	var l []note
	for w := range strings.SplitSeq(words, ",") {
		day, text, _ := strings.Cut(w, ":")
		l = append(l, note{number(day), text})
	}
	return l
}

// entries makes lines of notes.
func entries(l []note) []api.Entry {
	var lines []api.Entry
	var before uint64
	for i, x := range l {
		before = sum(before, i, x.day, x.text)
		lines = append(lines, api.Entry{Number: i, Day: x.day, Text: x.text, Sum: before})
	}
	return lines
}

// bytesOf is the bytes of lines.
func bytesOf(lines []api.Entry) []byte {
	var b []byte
	for _, x := range lines {
		b = append(b, strconv.Itoa(x.Number)+" "+strconv.Itoa(x.Day)+" "+strconv.FormatUint(x.Sum, 10)+" "+x.Text+"\n"...)
	}
	return b
}

// want checks a result.
func want[T comparable](t *testing.T, what string, got, want T) {
	t.Helper()
	if got != want {
		t.Errorf("%s = %v, want %v", what, got, want)
	}
}

// The calls below are those whose errors a test does not expect.

func mustNew(t *testing.T, x firm.Setup) *firm.Firm {
	t.Helper()
	f, e := firm.New(x)
	if e != api.OK || f == nil {
		t.Fatalf("New: error %d", e)
	}
	return f
}

func mustRead(t *testing.T, x firm.Setup, l []byte) *firm.Firm {
	t.Helper()
	f, e := firm.Read(x, l)
	if e != api.OK || f == nil {
		t.Fatalf("Read of %q: error %d", l, e)
	}
	return f
}

// done is a firm that has done a script without an error.
func done(t *testing.T, x firm.Setup, script string) *firm.Firm {
	t.Helper()
	f := mustNew(t, x)
	if printed := firm.Do(f, script); strings.Contains(printed, "error") {
		t.Fatalf("%q prints %q", script, printed)
	}
	return f
}
