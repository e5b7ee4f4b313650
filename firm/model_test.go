package firm_test

import (
	"math/rand/v2"
	"slices"
	"strconv"
	"strings"
	"testing"

	"steeplejack/api"
	"steeplejack/firm"
	"steeplejack/gear"
	"steeplejack/job"
	"steeplejack/ladder"
	"steeplejack/stack"
	"steeplejack/wind"
)

// model is a firm as the chapter words it, which asks each of its sentences by itself.
type model struct {
	x      firm.Setup
	day    int
	gusts  []int
	dogs   [][]int
	felled []bool
	men    []int
	rigs   [][]api.Link
	stacks []int // of the rigs
	struck []bool
	gear   []api.Item
	back   []string
	money  int
	notes  []note
}

func newModel(x firm.Setup) *model {
	n := len(x.Stacks)
	return &model{x: x, dogs: make([][]int, n), felled: make([]bool, n), men: make([]int, n), gear: slices.Clone(x.Gear)}
}

// goes asks whether work would go in one minute more.
func (m *model) goes(gusts []int) bool {
	is, e := wind.Goes(m.x.Rule, append(slices.Clone(gusts), 0), len(gusts))
	return is && e == api.OK
}

func (m *model) up() int {
	all := 0
	for _, n := range m.men {
		all += n
	}
	return all
}

func (m *model) item(mark string) *api.Item {
	for i := range m.gear {
		if m.gear[i].Mark == mark {
			return &m.gear[i]
		}
	}
	return nil
}

// bad reports whether a link's item hangs already, is out of date, or is called back.
func (m *model) bad(x api.Link) bool {
	for i, r := range m.rigs {
		for _, y := range r {
			if !m.struck[i] && x.Mark == y.Mark {
				return true
			}
		}
	}
	return m.old(x)
}

func (m *model) old(x api.Link) bool {
	item := m.item(x.Mark)
	return item.Due < m.day || slices.Contains(m.back, item.Batch)
}

// fails reports whether a stack falls in the wind of the last gust.
func (m *model) fails(i int) bool {
	g := 0
	if len(m.gusts) > 0 && m.gusts[len(m.gusts)-1] >= 0 {
		g = m.gusts[len(m.gusts)-1]
	}
	for side := range 4 {
		_, e := stack.Falls(m.x.Stacks[i], min(g*g/20, 10_000), side)
		if e == api.OK {
			return true
		}
	}
	return false
}

// why is an error that a command has if something is wrong.
type why struct {
	wrong bool
	e     api.Errno
}

// first is the first error of what is wrong.
func first(all ...why) api.Errno {
	for _, x := range all {
		if x.wrong {
			return x.e
		}
	}
	return api.OK
}

// error is the error of a command.
func (m *model) error(name string, words []string) api.Errno {
	switch name {
	case "look":
		return first(why{m.item(words[0]) == nil, api.ErrName})
	case "call":
		named := gear.Valid([]api.Item{{Mark: "a", Load: 1, Batch: words[0]}})
		return first(why{!named, api.ErrInvalid}, why{slices.Contains(m.back, words[0]), api.ErrDuplicate}, why{len(m.back) == 100, api.ErrLimit})
	case "day":
		return first(why{m.up() > 0 || m.day == 100_000, api.ErrState})
	case "gust":
		g := number(words[0])
		return first(why{g < -1 || g > 200, api.ErrRange}, why{len(m.gusts) == 2_000, api.ErrState}, why{m.up() > 0 && !m.goes(append(slices.Clone(m.gusts), g)), api.ErrWind})
	case "strike", "lift":
		return m.rigError(name, words)
	}
	return m.stackError(name, words)
}

// rigError is the error of a command about a rig.
func (m *model) rigError(name string, words []string) api.Errno {
	i := number(words[0])
	if i < 0 || i >= len(m.rigs) {
		return api.ErrName
	}
	up := m.men[m.stacks[i]]
	if name == "strike" {
		return first(why{m.struck[i] || up > 0, api.ErrState})
	}
	if m.struck[i] || up == 0 {
		return api.ErrState
	}
	borne, e := gear.Borne(m.gear, m.rigs[i], numbers(words[1:]))
	return first(why{!m.goes(m.gusts), api.ErrWind}, why{e != api.OK, e}, why{m.weak(m.rigs[i], borne), api.ErrGear})
}

func (m *model) weak(r []api.Link, borne []int) bool {
	for i, n := range borne {
		if m.old(r[i]) || m.item(r[i].Mark).Load < n {
			return true
		}
	}
	return false
}

// stackError is the error of a command about a stack.
func (m *model) stackError(name string, words []string) api.Errno {
	i := number(words[0])
	if i < 0 || i >= len(m.x.Stacks) {
		return api.ErrName
	}
	stopped := why{!m.goes(m.gusts), api.ErrWind}
	n := 0
	if name == "up" || name == "down" {
		n = number(words[1])
	}
	switch name {
	case "dog":
		_, e := ladder.Fewest(m.x.Climb, m.x.Joints[i])
		return first(why{m.felled[i] || len(m.dogs[i]) > 0, api.ErrState}, stopped, why{e != api.OK, e})
	case "rig":
		r := links(strings.Join(words[1:], " "))
		return first(why{m.felled[i], api.ErrState}, why{!gear.ValidRig(m.gear, r) || len(m.rigs) == 50, api.ErrInvalid}, why{gear.ValidRig(m.gear, r) && slices.ContainsFunc(r, m.bad), api.ErrGear})
	case "up":
		return first(why{n < 2 || n > 16, api.ErrRange}, why{m.felled[i] || len(m.dogs[i]) == 0 || m.up()+n > m.x.Men, api.ErrState}, stopped)
	case "down":
		return first(why{n < 1 || n > 16, api.ErrRange}, why{m.men[i] < n || m.men[i]-n == 1, api.ErrState})
	case "fell":
		rigged := false
		for j := range m.rigs {
			rigged = rigged || m.stacks[j] == i && !m.struck[j]
		}
		return first(why{m.felled[i] || m.up() > 0 || rigged, api.ErrState}, stopped, why{m.fails(i), api.ErrWind})
	}
	return first(why{m.money+m.price(i) > 1_000_000_000_000, api.ErrLimit})
}

func (m *model) price(i int) int {
	height := 0
	for _, c := range m.x.Stacks[i] {
		height += c.Height
	}
	price, _ := job.Price(m.x.Rate, height)
	return price
}

// do does a command that has no error.
func (m *model) do(name string, words []string) {
	switch name {
	case "look":
		m.item(words[0]).Due = min(m.day+180, 100_000)
	case "call":
		m.back = append(m.back, words[0])
	case "day":
		m.day++
		m.gusts = nil
	case "gust":
		m.gusts = append(m.gusts, number(words[0]))
	case "strike":
		m.struck[number(words[0])] = true
	case "rig":
		m.rigs, m.stacks, m.struck = append(m.rigs, links(strings.Join(words[1:], " "))), append(m.stacks, number(words[0])), append(m.struck, false)
	case "dog":
		m.dogs[number(words[0])], _ = ladder.Fewest(m.x.Climb, m.x.Joints[number(words[0])])
	case "up":
		m.men[number(words[0])] += number(words[1])
	case "down":
		m.men[number(words[0])] -= number(words[1])
	case "fell":
		m.dogs[number(words[0])], m.felled[number(words[0])] = nil, true
	case "bill":
		m.money += m.price(number(words[0]))
	}
}

// printed is what a line prints that is a command or a query.
func (m *model) printed(line string) string {
	name, rest, _ := strings.Cut(line, " ")
	words := strings.Split(rest, " ")
	if isQuery(line) {
		return m.answer(name, words)
	}
	e := api.ErrLimit
	if len(m.notes) < 2_000 {
		e = m.error(name, words)
	}
	if e != api.OK {
		return "error " + strconv.Itoa(int(e))
	}
	m.do(name, words)
	m.notes = append(m.notes, note{m.day, line})
	if name == "rig" {
		return strconv.Itoa(len(m.rigs) - 1)
	}
	return "ok"
}

// answer answers a query.
func (m *model) answer(name string, words []string) string {
	switch name {
	case "now":
		return strconv.Itoa(m.day)
	case "money":
		return strconv.Itoa(m.money)
	case "goes":
		if m.goes(m.gusts) {
			return "yes"
		}
		return "no"
	}
	i := number(words[0])
	if i < 0 || i >= len(m.x.Stacks) {
		return "error 5"
	}
	switch name {
	case "aloft":
		return strconv.Itoa(m.men[i])
	case "height":
		height, _ := stack.Height(m.x.Stacks[i])
		return strconv.Itoa(height)
	case "safe":
		if p, side, e := stack.Least(m.x.Stacks[i]); e == api.OK {
			return strconv.Itoa(p) + " " + strconv.Itoa(side)
		}
		return "error 8"
	}
	if len(m.dogs[i]) == 0 {
		return "error 10"
	}
	ladders, e := ladder.Ladders(m.x.Climb, m.x.Joints[i], m.dogs[i])
	if e != api.OK {
		return "error 8"
	}
	most, _ := ladder.Greatest(m.x.Climb, m.x.Joints[i], m.dogs[i], ladders)
	return strconv.Itoa(most)
}

// sight is what a firm of the model would tell.
func (m *model) sight() sight {
	n := 10 - len(m.men)
	s := sight{now: m.day, money: m.money, goes: m.goes(m.gusts), gear: m.gear, back: m.back, lines: entries(m.notes)}
	s.aloft, s.dogs, s.felled = append(slices.Clone(m.men), make([]int, n)...), append(slices.Clone(m.dogs), make([][]int, n)...), append(slices.Clone(m.felled), make([]bool, n)...)
	for i, r := range m.rigs {
		if m.struck[i] {
			r = nil
		}
		s.rigs = append(s.rigs, r)
	}
	s.bytes = string(bytesOf(s.lines))
	return s
}

// one is a random one of a list.
func one[T any](r *rand.Rand, l ...T) T { return l[r.IntN(len(l))] }

// randomSetup makes a setup of at most four stacks.
func randomSetup(r *rand.Rand) firm.Setup {
	x := setup()
	x.Stacks, x.Joints = nil, nil
	for range 1 + r.IntN(4) {
		x.Stacks = append(x.Stacks, courses(one(r, sturdy, sturdy, light, leaning)))
		x.Joints = append(x.Joints, joints(one(r, "12 25 33 60!", "10 20 30 40", "12 30", "10 20 30! 40!", "12 20 26 33 40 48")))
	}
	for i := range x.Gear {
		x.Gear[i].Due = r.IntN(6)
	}
	x.Rule.Calm = 1 + r.IntN(3)
	x.Men = 1 + r.IntN(9)
	return x
}

// randomLinks makes the words of links that may be wrong.
func randomLinks(r *rand.Rand, g []api.Item) string {
	var words []string
	for i, at := range r.Perm(len(g))[:1+r.IntN(3)] {
		from := -1
		if i > 0 {
			from = r.IntN(i)
		}
		if r.IntN(25) == 0 {
			from = r.IntN(4) - 2
		}
		words = append(words, g[at].Mark+":"+strconv.Itoa(from))
	}
	return strings.Join(words, " ")
}

// randomLine makes a line that is a command or a query.
func randomLine(r *rand.Rand, x firm.Setup) string {
	at := strconv.Itoa(r.IntN(len(x.Stacks)))
	if r.IntN(20) == 0 {
		at = one(r, "-1", "9", strconv.Itoa(len(x.Stacks)))
	}
	rig, load := strconv.Itoa(r.IntN(6)), func() string { return strconv.Itoa(one(r, 0, 1, 400, 501, 2_000, 3_500, 9_000, 10_001, -1, 1_000_001)) }
	switch r.IntN(24) {
	case 0, 1, 2:
		return "gust " + strconv.Itoa(one(r, 0, 5, 20, 31, 32, 35, 39, 40, 45, 49, 49, 50, 60, 200, 201, -1, -2))
	case 3, 4:
		return "day"
	case 5, 6:
		return "dog " + at
	case 7, 8:
		return "rig " + at + " " + randomLinks(r, x.Gear)
	case 9:
		return "strike " + rig
	case 10, 11, 12:
		return "up " + at + " " + strconv.Itoa(one(r, 1, 2, 2, 2, 3, 4, 5, 17))
	case 13, 14, 15:
		return "down " + at + " " + strconv.Itoa(one(r, 0, 1, 2, 2, 3, 4, 17))
	case 16:
		return "lift " + rig + " " + load()
	case 17:
		return "lift " + rig + " " + load() + " " + load()
	case 18:
		return "look " + one(r, "beam", "sling_a", "sling_b", "shackle", "hook", "spare", "none", "steel")
	case 19:
		return "call " + one(r, "old", "hemp2", "hemp1", "none", "more", "Old", "")
	case 20:
		return "fell " + at
	case 21:
		return "bill " + at
	case 22:
		return one(r, "now", "money", "goes")
	}
	return one(r, "aloft ", "height ", "safe ", "bears ") + at
}

func randomLines(r *rand.Rand, x firm.Setup, n int) []string {
	var lines []string
	for range n {
		lines = append(lines, randomLine(r, x))
	}
	return lines
}

// 10.2 to 10.5: random commands and queries, as the chapter words them.
func TestAgainstWords(t *testing.T) {
	r := random()
	times := map[string]int{}
	for range 400 {
		x := randomSetup(r)
		f, m := mustNew(t, x), newModel(x)
		for _, line := range randomLines(r, x, 150) {
			printed := m.printed(line)
			if got := firm.Do(f, line); got != printed+"\n" {
				t.Fatalf("%s = %q, want %s", line, got, printed)
			}
			if !sameSight(lookAt(f), m.sight()) {
				t.Fatalf("behind %s: %v, want %v", line, lookAt(f), m.sight())
			}
			name, _, _ := strings.Cut(line, " ")
			if !strings.HasPrefix(printed, "error") {
				printed = "done"
			}
			times[name+" "+printed]++
		}
		if again := mustRead(t, x, f.Bytes()); !firm.Same(f, again) || !sameSight(lookAt(again), m.sight()) {
			t.Fatal("Read of Bytes is another firm")
		}
	}
	// All that commands can come to, but for what no book is long enough for.
	for _, outcome := range []string{
		"gust done", "gust error 7", "gust error 11", "day done", "day error 10", "dog done", "dog error 5", "dog error 8", "dog error 10", "dog error 11", "rig done", "rig error 1", "rig error 5", "rig error 10", "rig error 12",
		"strike done", "strike error 5", "strike error 10", "up done", "up error 5", "up error 7", "up error 10", "up error 11", "down done", "down error 5", "down error 7", "down error 10", "lift done", "lift error 5", "lift error 7", "lift error 9", "lift error 10", "lift error 12",
		"look done", "look error 5", "call done", "call error 1", "call error 6", "fell done", "fell error 5", "fell error 10", "fell error 11", "bill done", "bill error 5", "bears done", "bears error 8", "bears error 10", "safe error 8",
	} {
		if times[outcome] < 10 {
			t.Errorf("%s: %d times", outcome, times[outcome])
		}
	}
}

// P10.2 to P10.4 and P11, after each of random commands.
func TestSafety(t *testing.T) {
	r := random()
	for range 300 {
		x := randomSetup(r)
		f := mustNew(t, x)
		for _, line := range randomLines(r, x, 150) {
			printed := firm.Do(f, line)
			for i := range x.Stacks {
				n := f.Aloft(i)
				safe := n >= 2 && f.Goes() && !f.Felled(i) && ladder.Right(x.Climb, x.Joints[i], f.Dogs(i))
				if n != 0 && !safe {
					t.Fatalf("behind %s: %d men up on %d", line, n, i)
				}
			}
			checkGear(t, f, line, printed)
		}
	}
}

// checkGear checks that no item hangs in two rigs, and that what was lifted was lifted by gear that is good.
func checkGear(t *testing.T, f *firm.Firm, line, printed string) {
	t.Helper()
	var hang [][]api.Link
	for _, r := range f.Rigs() {
		if len(r) > 0 {
			hang = append(hang, r)
		}
	}
	if taken, e := gear.Taken(f.Gear(), hang); e != api.OK || len(taken) > 0 {
		t.Fatalf("behind %s: %v hang twice, error %d", line, taken, e)
	}
	if !strings.HasPrefix(line, "lift ") || printed != "ok\n" {
		return
	}
	words := strings.Fields(line)[1:]
	r := f.Rigs()[number(words[0])]
	may, e := gear.May(f.Gear(), r, f.Back(), f.Now(), numbers(words[1:]))
	until, _ := gear.Until(f.Gear(), r)
	if !may || e != api.OK || until < f.Now() {
		t.Fatalf("%s: the rig may not lift this, error %d", line, e)
	}
}
