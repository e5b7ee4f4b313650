package gear_test

import (
	"math"
	"math/rand/v2"
	"slices"
	"strconv"
	"strings"
	"testing"

	"steeplejack/api"
	"steeplejack/gear"
)

func item(mark string, load, due int, batch string) api.Item {
	return api.Item{Mark: mark, Load: load, Due: due, Batch: batch}
}

// links makes links of words MARK:FROM.
func links(words string) []api.Link {
	var r []api.Link
	for w := range strings.FieldsSeq(words) {
		mark, from, _ := strings.Cut(w, ":")
		n, err := strconv.Atoi(from)
		if err != nil {
			panic("links: " + words)
		}
		r = append(r, api.Link{Mark: mark, From: n})
	}
	return r
}

// store is the gear of the chapter's example, and some more.
func store() []api.Item {
	return []api.Item{
		item("hook", 500, 40, "old"),
		item("beam", 10_000, 90, "steel"),
		item("sling_a", 3_000, 60, "hemp1"),
		item("sling_b", 8_000, 50, "hemp2"),
		item("shackle", 2_000, 70, "steel"),
		item("spare", 9_000, 100, "hemp1"),
	}
}

// example is the rig of the chapter's example.
func example() []api.Link { return links("beam:-1 sling_a:0 sling_b:0") }

// deep is a rig whose ends, 2, 4 and 5, are not all equally far down: sling_a bears hook, beam and shackle.
func deep() []api.Link { return links("spare:-1 sling_a:0 hook:1 beam:1 shackle:3 sling_b:0") }

// alike makes n items with Marks of their own that are alike otherwise.
func alike(n, load int) []api.Item {
	var g []api.Item
	for i := range n {
		g = append(g, item("m"+strconv.Itoa(i), load, 50, "b"))
	}
	return g
}

// rigOf makes a rig of the first n items, of which each hangs from what from tells.
func rigOf(g []api.Item, n int, from func(i int) int) []api.Link {
	var r []api.Link
	for i, x := range g[:n] {
		r = append(r, api.Link{Mark: x.Mark, From: from(i)})
	}
	return r
}

// chain is n links, each below the one before; star is links that all hang from the topmost.
func chain(g []api.Item, n int) []api.Link {
	return rigOf(g, n, func(i int) int { return i - 1 })
}

func star(g []api.Item, n int) []api.Link {
	return rigOf(g, n, func(i int) int { return min(i-1, 0) })
}

// wild is numbers at which reckoning without care goes wrong.
var wild = []int{math.MinInt, math.MinInt + 1, -2, -1, 0, 1, 2, 31, 32, 100_000, 100_001, 1_000_000, 1_000_001, math.MaxInt - 1, math.MaxInt}

// notLoads is numbers that are no loads, notDays ones that are no days.
var (
	notLoads = []int{math.MinInt, -1, 1_000_001, math.MaxInt}
	notDays  = []int{math.MinInt, -1, 100_001, math.MaxInt}
)

// names and notNames may be marks and batches, or not.
var (
	names    = []string{"a", "z", "az", "a0", "z9", "a_", "b__9", "q1w2e3r4t5y6u7i8", "abcdefghijklmnop"}
	notNames = []string{
		"", " ", "_", "0", "9a", "_a", "A", "Ab", "aB", "a-", "-a", "a b", "a ", " a", "a\n", "a\t", "a.", "a:", "a/", "a`", "`", "{", "a{", "a@", "a[", "a\x00", "\x00", "\xff", "a\xff",
		"é", "aé", "ａ", "а", "a\u0301", "a١", "abcdefghijklmnopq", strings.Repeat("a", 256),
	}
)

// wrongItems is items that no valid gear has.
func wrongItems() []api.Item {
	var wrong []api.Item
	for _, name := range notNames {
		wrong = append(wrong, item(name, 1, 1, "b"), item("m", 1, 1, name))
	}
	for _, n := range append([]int{0}, notLoads...) {
		wrong = append(wrong, item("m", n, 1, "b"))
	}
	for _, n := range notDays {
		wrong = append(wrong, item("m", 1, n, "b"))
	}
	return append(wrong, api.Item{})
}

// wrongGear is gear that is not valid, each with the marks of the store.
func wrongGear() [][]api.Item {
	wrong := [][]api.Item{append(store(), item("hook", 1, 1, "b")), append(store(), store()...), append(alike(59, 1), store()...)}
	for _, x := range wrongItems() {
		wrong = append(wrong, append(store(), x), append([]api.Item{x}, store()...))
	}
	return wrong
}

// wrongRigs is rigs that are not valid for the store.
func wrongRigs() [][]api.Link {
	wrong := [][]api.Link{nil, {}, make([]api.Link, 1), make([]api.Link, 1<<16)}
	for _, words := range []string{
		"beam:0", "beam:1", "beam:-2", "beam:-1 hook:-1", "beam:-1 hook:1", "beam:-1 hook:2", "beam:-1 hook:-2", "beam:-1 hook:0 spare:2", "beam:-1 hook:0 spare:3", "beam:-1 hook:0 spare:-1", "beam:1 hook:0", "beam:1 hook:-1",
		"beam:-1 beam:0", "beam:-1 hook:0 beam:1", "beam:-1 hook:0 hook:0", "bean:-1", "beam:-1 hooks:0", "beam:-1 :0", ":-1", "Beam:-1", "steel:-1", "beam:-1 hook:0 spare:0 m:0", "beam:9223372036854775807", "beam:-1 hook:-9223372036854775808",
	} {
		wrong = append(wrong, links(words))
	}
	return wrong
}

// random is the same numbers in each run.
func random() *rand.Rand { return rand.New(rand.NewPCG(7, 20)) }

// randomGear makes n items of few batches, with a Load of at most `most`, and a Due from 50 to 59.
func randomGear(r *rand.Rand, n, most int) []api.Item {
	var g []api.Item
	for _, i := range r.Perm(n) {
		g = append(g, item("m"+strconv.Itoa(i), 1+r.IntN(most), 50+r.IntN(10), randomBatch(r)))
	}
	return g
}

func randomBatch(r *rand.Rand) string { return []string{"a", "b1", "c_", "dd", "e", "f"}[r.IntN(6)] }

// randomRig makes a rig of n items.
func randomRig(r *rand.Rand, g []api.Item, n int) []api.Link {
	g = slices.Clone(g)
	r.Shuffle(len(g), func(i, j int) { g[i], g[j] = g[j], g[i] })
	return rigOf(g, n, func(i int) int {
		if i == 0 {
			return -1
		}
		return r.IntN(i)
	})
}

// randomRigs makes at most five rigs of at most `most` items each.
func randomRigs(r *rand.Rand, g []api.Item, most int) [][]api.Link {
	rigs := make([][]api.Link, r.IntN(6))
	for i := range rigs {
		rigs[i] = randomRig(r, g, 1+r.IntN(most))
	}
	return rigs
}

func randomLoads(r *rand.Rand, n, most int) []int {
	l := make([]int, n)
	for i := range l {
		l[i] = r.IntN(most + 1)
	}
	return l
}

// slowEnds is the links that are no other link's From.
func slowEnds(r []api.Link) []int {
	var ends []int
	for i := range r {
		if !slices.ContainsFunc(r, func(x api.Link) bool { return x.From == i }) {
			ends = append(ends, i)
		}
	}
	return ends
}

// slowBorne hangs each load at its end, and at all links from there up.
func slowBorne(r []api.Link, loads []int) []int {
	borne := make([]int, len(r))
	for i, end := range slowEnds(r) {
		for at := end; at >= 0; at = r[at].From {
			borne[at] += loads[i]
		}
	}
	return borne
}

// itemOf is the item of a link.
func itemOf(g []api.Item, x api.Link) api.Item {
	return g[slices.IndexFunc(g, func(y api.Item) bool { return y.Mark == x.Mark })]
}

// bears reports whether no link bears more than its Load.
func bears(g []api.Item, r []api.Link, loads []int) bool {
	for i, n := range slowBorne(r, loads) {
		if n > itemOf(g, r[i]).Load {
			return false
		}
	}
	return true
}

func sum(l []int) int {
	n := 0
	for _, x := range l {
		n += x
	}
	return n
}

// rigsOf is the rigs that have an item of a batch.
func rigsOf(g []api.Item, rigs [][]api.Link, batch string) []int {
	var l []int
	for i, r := range rigs {
		if slices.ContainsFunc(r, func(x api.Link) bool { return itemOf(g, x).Batch == batch }) {
			l = append(l, i)
		}
	}
	return l
}

// want checks a result and its error; behind an error the result is its zero value.
func want[T comparable](t *testing.T, what string, got T, e api.Errno, want T, wantE api.Errno) {
	t.Helper()
	if got != want || e != wantE {
		t.Errorf("%s = %v, error %d, want %v, error %d", what, got, e, want, wantE)
	}
}

func wantList[T comparable](t *testing.T, what string, got []T, e api.Errno, want []T, wantE api.Errno) {
	t.Helper()
	if !slices.Equal(got, want) || e != wantE {
		t.Errorf("%s = %v, error %d, want %v, error %d", what, got, e, want, wantE)
	}
}

// The calls below are those whose errors a test does not expect.

func mustBorne(t *testing.T, g []api.Item, r []api.Link, loads []int) []int {
	t.Helper()
	l, e := gear.Borne(g, r, loads)
	if e != api.OK {
		t.Fatalf("Borne(%v, %v, %v): error %d", g, r, loads, e)
	}
	return l
}

func mustMay(t *testing.T, g []api.Item, r []api.Link, back []string, day int, loads []int) bool {
	t.Helper()
	may, e := gear.May(g, r, back, day, loads)
	if e != api.OK {
		t.Fatalf("May(%v, %v, %v, %d, %v): error %d", g, r, back, day, loads, e)
	}
	return may
}

func mustShares(t *testing.T, g []api.Item, r []api.Link) []int {
	t.Helper()
	l, e := gear.Shares(g, r)
	if e != api.OK {
		t.Fatalf("Shares(%v, %v): error %d", g, r, e)
	}
	return l
}

func mustUntil(t *testing.T, g []api.Item, r []api.Link) int {
	t.Helper()
	day, e := gear.Until(g, r)
	if e != api.OK {
		t.Fatalf("Until(%v, %v): error %d", g, r, e)
	}
	return day
}
