package gear_test

import (
	"slices"
	"testing"

	"steeplejack/api"
	"steeplejack/gear"
)

// 7.1: ValidRig.
func TestValidRig(t *testing.T) {
	most := alike(64, 1)
	for _, c := range []struct {
		g []api.Item
		r []api.Link
	}{
		{store(), links("beam:-1")}, {store(), example()}, {store(), deep()}, {store(), links("beam:-1 hook:0 spare:1 shackle:2")},
		{most, chain(most, 32)}, {most, star(most, 32)}, {most, links("m63:-1 m0:0")}, {alike(1, 1), links("m0:-1")},
	} {
		if !gear.ValidRig(c.g, c.r) {
			t.Errorf("%v is not valid for %v", c.r, c.g)
		}
	}
	for _, r := range [][]api.Link{chain(most, 33), star(most, 33), chain(most, 64)} {
		if gear.ValidRig(most, r) {
			t.Errorf("%d links are valid", len(r))
		}
	}
	if gear.ValidRig(alike(3, 1), links("m0:-1 m3:0")) || gear.ValidRig(nil, links("m0:-1")) {
		t.Error("links of gear that there is not are valid")
	}
}

// 7.1 to 7.3: a rig or gear that is not valid.
func TestInvalidRigs(t *testing.T) {
	check := func(g []api.Item, r []api.Link) {
		t.Helper()
		if gear.ValidRig(g, r) {
			t.Errorf("ValidRig(%v, %v)", g, r)
		}
		for _, n := range []int{0, -1} { // with -1 the other arguments are wrong too
			back := make([]string, 101*-n)
			l, e := gear.Ends(g, r)
			wantList(t, "Ends", l, e, nil, api.ErrInvalid)
			l, e = gear.Borne(g, r, []int{n, 1})
			wantList(t, "Borne", l, e, nil, api.ErrInvalid)
			l, e = gear.Weak(g, r, back, n, []int{n, 1})
			wantList(t, "Weak", l, e, nil, api.ErrInvalid)
			may, e := gear.May(g, r, back, n, []int{n, 1})
			want(t, "May", may, e, false, api.ErrInvalid)
			most, e := gear.Most(g, r, n)
			want(t, "Most", most, e, 0, api.ErrInvalid)
			most, e = gear.Greatest(g, r)
			want(t, "Greatest", most, e, 0, api.ErrInvalid)
			l, e = gear.Shares(g, r)
			wantList(t, "Shares", l, e, nil, api.ErrInvalid)
			day, e := gear.Until(g, r)
			want(t, "Until", day, e, 0, api.ErrInvalid)
			swapped, e := gear.Swapped(g, r, n, "shackle")
			wantList(t, "Swapped", swapped, e, nil, api.ErrInvalid)
		}
	}
	for _, r := range wrongRigs() {
		check(store(), r)
		check(nil, r)
	}
	check(nil, example())
	for _, g := range wrongGear() {
		check(g, example())
		check(g, links("beam:-1"))
		check(g, nil)
	}
}

// 7.1: Ends and Borne.
func TestBorne(t *testing.T) {
	many := alike(32, 1)
	var rest []int // of a star
	for i := range 31 {
		rest = append(rest, i+1)
	}
	for _, c := range []struct {
		name        string
		g           []api.Item
		r           []api.Link
		ends        []int
		loads, want []int
	}{
		{"the example", store(), example(), []int{1, 2}, []int{3_000, 7_000}, []int{10_000, 3_000, 7_000}},
		{"more than they may", store(), example(), []int{1, 2}, []int{1_000_000, 999_999}, []int{1_999_999, 1_000_000, 999_999}},
		{"nothing", store(), example(), []int{1, 2}, []int{0, 0}, []int{0, 0, 0}},
		{"one link", store(), links("hook:-1"), []int{0}, []int{7}, []int{7}},
		{"a chain", store(), links("hook:-1 beam:0 spare:1"), []int{2}, []int{7}, []int{7, 7, 7}},
		{"deep", store(), deep(), []int{2, 4, 5}, []int{1, 20, 300}, []int{321, 21, 1, 20, 20, 300}},
		{"crossing", store(), links("hook:-1 beam:0 spare:0 shackle:1 sling_a:2 sling_b:1"), []int{3, 4, 5}, []int{1, 20, 300}, []int{321, 301, 20, 1, 20, 300}},
		{"an end before others", store(), links("hook:-1 beam:0 spare:0 shackle:2"), []int{1, 3}, []int{1, 20}, []int{21, 1, 20, 20}},
		{"the longest chain", many, chain(many, 32), []int{31}, []int{1_000_000}, slices.Repeat([]int{1_000_000}, 32)},
		{"the greatest star", many, star(many, 32), rest, slices.Repeat([]int{1_000_000}, 31), append([]int{31_000_000}, slices.Repeat([]int{1_000_000}, 31)...)},
	} {
		ends, e := gear.Ends(c.g, c.r)
		wantList(t, c.name+": Ends", ends, e, c.ends, api.OK)
		borne, e := gear.Borne(c.g, c.r, c.loads)
		wantList(t, c.name+": Borne", borne, e, c.want, api.OK)
	}
}

// 7.1 and 7.2: loads that are too few, too many, or no loads.
func TestLoadErrors(t *testing.T) {
	check := func(loads []int, want api.Errno) {
		t.Helper()
		l, e := gear.Borne(store(), example(), loads)
		wantList(t, "Borne", l, e, nil, want)
		for _, day := range []int{0, 99, 100_000} {
			l, e = gear.Weak(store(), example(), nil, day, loads)
			wantList(t, "Weak", l, e, nil, want)
		}
	}
	for _, loads := range [][]int{nil, {}, {1}, {1, 2, 3}, {1, 2, 3, 4}, make([]int, 1<<16), {-1}, {1, 2, -3}, {1_000_001}} {
		check(loads, api.ErrSize)
	}
	for _, n := range notLoads {
		check([]int{n, 1}, api.ErrRange)
		check([]int{1, n}, api.ErrRange)
		check([]int{n, n}, api.ErrRange)
		check([]int{n}, api.ErrSize)
	}
}

// P7.2: the topmost link bears all, each other one what hangs from it.
func TestBorneAddsUp(t *testing.T) {
	r := random()
	for range 1000 {
		g := randomGear(r, 1+r.IntN(32), 9)
		links := randomRig(r, g, len(g))
		ends, e := gear.Ends(g, links)
		wantList(t, "Ends", ends, e, slowEnds(links), api.OK)
		loads := randomLoads(r, len(ends), 1_000_000)
		borne := mustBorne(t, g, links, loads)
		if borne[0] != sum(loads) || !slices.Equal(borne, slowBorne(links, loads)) {
			t.Fatalf("Borne(%v, %v) = %v", links, loads, borne)
		}
		below := make([]int, len(links))
		for i, x := range links[1:] {
			below[x.From] += borne[i+1]
		}
		for i, end := range ends {
			below[end] = loads[i]
		}
		wantList(t, "what hangs from the links", borne, api.OK, below, api.OK)
	}
}

// 7.2: Most.
func TestMost(t *testing.T) {
	long := alike(32, 1_000_000)
	long[17].Load = 5
	for _, c := range []struct {
		name string
		g    []api.Item
		r    []api.Link
		end  int
		want int
		e    api.Errno
	}{
		{"the example", store(), example(), 1, 3_000, api.OK},
		{"the other end", store(), example(), 2, 8_000, api.OK},
		{"no end", store(), example(), 0, 0, api.ErrState},
		{"no link", store(), example(), 3, 0, api.ErrRange},
		{"one link", store(), links("hook:-1"), 0, 500, api.OK},
		{"the end is the weakest", store(), deep(), 2, 500, api.OK},
		{"the end, below stronger ones", store(), deep(), 4, 2_000, api.OK},
		{"an end beside them", store(), deep(), 5, 8_000, api.OK},
		{"the topmost is the weakest", store(), links("hook:-1 beam:0 spare:1 shackle:0"), 2, 500, api.OK},
		{"one between is the weakest", store(), links("beam:-1 hook:0 spare:1"), 2, 500, api.OK},
		{"between is no end", store(), deep(), 3, 0, api.ErrState},
		{"above is no end", store(), deep(), 1, 0, api.ErrState},
		{"the longest chain", long, chain(long, 32), 31, 5, api.OK},
		{"a shorter chain", long, chain(long, 17), 16, 1_000_000, api.OK},
		{"the end of a star", long, star(long, 32), 31, 1_000_000, api.OK},
		{"the weak end of a star", long, star(long, 32), 17, 5, api.OK},
	} {
		got, e := gear.Most(c.g, c.r, c.end)
		want(t, c.name+": Most", got, e, c.want, c.e)
	}
	for _, n := range wild {
		if n < 0 || n > 2 {
			got, e := gear.Most(store(), example(), n)
			want(t, "Most", got, e, 0, api.ErrRange)
		}
	}
}

// 7.2: Most is the greatest load at one end with which the rig bears.
func TestMostAlone(t *testing.T) {
	r := random()
	for range 1000 {
		g := randomGear(r, 1+r.IntN(12), []int{9, 999_999}[r.IntN(2)])
		links := randomRig(r, g, len(g))
		ends := slowEnds(links)
		for i, end := range ends {
			most, e := gear.Most(g, links, end)
			loads := make([]int, len(ends))
			loads[i] = most
			fits := bears(g, links, loads)
			loads[i]++
			if e != api.OK || !fits || bears(g, links, loads) {
				t.Fatalf("Most(%v, %v, %d) = %d, error %d", g, links, end, most, e)
			}
		}
	}
}

// 7.2: Greatest and Shares.
func TestShares(t *testing.T) {
	most, full := alike(32, 1_000_000), make([]int, 31)
	full[0] = 1_000_000
	thin := append([]api.Item{item("top", 1_000_000, 1, "b")}, alike(31, 30_000)...)
	for _, c := range []struct {
		name     string
		g        []api.Item
		r        []api.Link
		greatest int
		shares   []int
	}{
		{"the example", store(), example(), 10_000, []int{3_000, 7_000}},
		{"the other way round", store(), links("beam:-1 sling_b:0 sling_a:0"), 10_000, []int{8_000, 2_000}},
		{"the slings are weaker together", store(), links("beam:-1 sling_a:0 shackle:0"), 5_000, []int{3_000, 2_000}},
		{"the topmost is weaker", store(), links("hook:-1 sling_a:0 shackle:0"), 500, []int{500, 0}},
		{"one link", store(), links("hook:-1"), 500, []int{500}},
		{"a chain", store(), links("beam:-1 hook:0 spare:1"), 500, []int{500}},
		{"deep", store(), deep(), 9_000, []int{500, 2_000, 6_500}},
		{"one between holds the first ends back", store(), links("spare:-1 shackle:0 sling_a:1 sling_b:1 beam:0"), 9_000, []int{2_000, 0, 7_000}},
		{"the first end is below a later link", store(), links("spare:-1 sling_a:0 sling_b:1 beam:1"), 3_000, []int{3_000, 0}},
		{"ends that cross", store(), links("spare:-1 shackle:0 sling_b:0 sling_a:1 beam:2 hook:1"), 9_000, []int{2_000, 7_000, 0}},
		{"the greatest star", most, star(most, 32), 1_000_000, full},
		{"a star whose ends are weaker", thin, star(thin, 32), 930_000, slices.Repeat([]int{30_000}, 31)},
		{"the longest chain", most, chain(most, 32), 1_000_000, []int{1_000_000}},
	} {
		greatest, e := gear.Greatest(c.g, c.r)
		want(t, c.name+": Greatest", greatest, e, c.greatest, api.OK)
		shares, e := gear.Shares(c.g, c.r)
		wantList(t, c.name+": Shares", shares, e, c.shares, api.OK)
	}
}

// slowShares looks at all loads, the first list last: it keeps the last one with the greatest sum.
func slowShares(g []api.Item, r []api.Link, most int) []int {
	var best []int
	loads := make([]int, len(slowEnds(r)))
	for {
		if bears(g, r, loads) && (best == nil || sum(loads) >= sum(best)) {
			best = slices.Clone(loads)
		}
		i := len(loads) - 1
		for i >= 0 && loads[i] == most {
			loads[i] = 0
			i--
		}
		if i < 0 {
			return best
		}
		loads[i]++
	}
}

// 7.2 and P7.3: no loads that the links bear have a greater sum, or the same sum and more at an earlier end.
func TestSharesAgainstAll(t *testing.T) {
	r := random()
	for range 800 {
		most := 1 + r.IntN(5)
		g := randomGear(r, 1+r.IntN(7), most)
		links := randomRig(r, g, len(g))
		if len(slowEnds(links)) > 4 {
			continue
		}
		best := slowShares(g, links, most)
		shares, e := gear.Shares(g, links)
		wantList(t, "Shares", shares, e, best, api.OK)
		greatest, e := gear.Greatest(g, links)
		want(t, "Greatest", greatest, e, sum(best), api.OK)
	}
}

// slowGreatest is the greatest load that the link i bears: what the links below it bear together, if it bears that.
func slowGreatest(g []api.Item, r []api.Link, i int) int {
	load, below := itemOf(g, r[i]).Load, 0
	for j, x := range r {
		if x.From == i {
			below += slowGreatest(g, r, j)
		}
	}
	if below == 0 {
		return load
	}
	return min(load, below)
}

// P7.3: the Shares of large rigs, whose sum is Greatest.
func TestSharesOfLargeRigs(t *testing.T) {
	r := random()
	for range 1000 {
		g := randomGear(r, 1+r.IntN(32), 1_000_000)
		links := randomRig(r, g, len(g))
		shares := mustShares(t, g, links)
		greatest, e := gear.Greatest(g, links)
		want(t, "Greatest", greatest, e, sum(shares), api.OK)
		if !bears(g, links, shares) || greatest != slowGreatest(g, links, 0) {
			t.Fatalf("Shares(%v, %v) = %v", g, links, shares)
		}
	}
}

// 7.2: Until.
func TestUntil(t *testing.T) {
	for _, c := range []struct {
		g    []api.Item
		r    []api.Link
		want int
	}{
		{store(), example(), 50},
		{store(), deep(), 40},
		{store(), links("spare:-1 beam:0"), 90},
		{store(), links("shackle:-1 beam:0"), 70},
		{store(), links("spare:-1"), 100},
		{[]api.Item{item("m", 1, 100_000, "b"), item("n", 1, 0, "b")}, links("m:-1"), 100_000},
		{[]api.Item{item("m", 1, 100_000, "b"), item("n", 1, 0, "b")}, links("m:-1 n:0"), 0},
	} {
		got, e := gear.Until(c.g, c.r)
		want(t, "Until", got, e, c.want, api.OK)
	}
}

// 7.3: Swapped.
func TestSwapped(t *testing.T) {
	for _, c := range []struct {
		name string
		r    []api.Link
		link int
		mark string
		want []api.Link
		e    api.Errno
	}{
		{"the topmost", example(), 0, "hook", links("hook:-1 sling_a:0 sling_b:0"), api.OK},
		{"between", deep()[:5], 1, "sling_b", links("spare:-1 sling_b:0 hook:1 beam:1 shackle:3"), api.OK},
		{"the last", example(), 2, "spare", links("beam:-1 sling_a:0 spare:0"), api.OK},
		{"one link", links("hook:-1"), 0, "beam", links("beam:-1"), api.OK},
		{"at another link", example(), 0, "sling_b", nil, api.ErrDuplicate},
		{"at an earlier link", example(), 2, "beam", nil, api.ErrDuplicate},
		{"at this link", example(), 1, "sling_a", nil, api.ErrDuplicate},
		{"at the only link", links("hook:-1"), 0, "hook", nil, api.ErrDuplicate},
		{"no such mark", example(), 1, "sling", nil, api.ErrName},
		{"a batch", example(), 1, "steel", nil, api.ErrName},
		{"no such link, no such mark", example(), 3, "sling", nil, api.ErrRange},
		{"no such link, at another link", example(), -1, "beam", nil, api.ErrRange},
	} {
		got, e := gear.Swapped(store(), c.r, c.link, c.mark)
		wantList(t, c.name+": Swapped", got, e, c.want, c.e)
	}
	for _, mark := range notNames {
		got, e := gear.Swapped(store(), example(), 1, mark)
		wantList(t, "Swapped", got, e, nil, api.ErrName)
	}
	for _, n := range wild {
		if n < 0 || n > 2 {
			got, e := gear.Swapped(store(), example(), n, "hook")
			wantList(t, "Swapped", got, e, nil, api.ErrRange)
		}
	}
}

// 7.3: a rig that is swapped is valid, and has its items but for the one.
func TestSwappedAndBack(t *testing.T) {
	r := random()
	for range 500 {
		g := randomGear(r, 2+r.IntN(40), 9)
		links := randomRig(r, g, 1+r.IntN(min(32, len(g)-1)))
		i := r.IntN(len(links))
		for _, x := range g {
			swapped, e := gear.Swapped(g, links, i, x.Mark)
			if slices.ContainsFunc(links, func(y api.Link) bool { return y.Mark == x.Mark }) {
				wantList(t, "Swapped", swapped, e, nil, api.ErrDuplicate)
				continue
			}
			if e != api.OK || !gear.ValidRig(g, swapped) || swapped[i] != (api.Link{Mark: x.Mark, From: links[i].From}) {
				t.Fatalf("Swapped(%v, %v, %d, %s) = %v, error %d", g, links, i, x.Mark, swapped, e)
			}
			back, e := gear.Swapped(g, swapped, i, links[i].Mark)
			wantList(t, "Swapped back", back, e, links, api.OK)
		}
	}
}
