package firm_test

import (
	"math"
	"slices"
	"testing"

	"steeplejack/api"
	"steeplejack/firm"
)

// rightSetups is setups that are valid, all different.
func rightSetups() []firm.Setup {
	right := []firm.Setup{setup()}
	for _, change := range []func(x *firm.Setup){
		func(x *firm.Setup) { x.Stacks, x.Joints = x.Stacks[:1], x.Joints[:1] },
		func(x *firm.Setup) {
			x.Stacks, x.Joints = append(x.Stacks, x.Stacks[:3]...), append(x.Joints, x.Joints[:3]...)
		},
		func(x *firm.Setup) { x.Stacks[4][0].Height = 1 },
		func(x *firm.Setup) { x.Stacks[0] = x.Stacks[0][:1] },
		func(x *firm.Setup) { x.Stacks[0], x.Stacks[1] = x.Stacks[1], x.Stacks[0] },
		func(x *firm.Setup) { x.Stacks[2] = slices.Repeat(courses(light), 60) },
		func(x *firm.Setup) { x.Joints = make([][]api.Joint, 5) },
		func(x *firm.Setup) { x.Joints[4] = joints("5") },
		func(x *firm.Setup) { x.Joints[0][3].Sound = true },
		func(x *firm.Setup) { x.Climb = api.Climb{First: 1, Gap: 1, Top: 1, Length: 1, Lap: 0, Strength: 1} },
		func(x *firm.Setup) { x.Climb.Strength++ },
		func(x *firm.Setup) { x.Gear = nil },
		func(x *firm.Setup) { x.Gear = alike(64) },
		func(x *firm.Setup) { x.Gear = x.Gear[:5] },
		func(x *firm.Setup) { x.Gear[5].Due-- },
		func(x *firm.Setup) { x.Gear[0].Load++ },
		func(x *firm.Setup) { x.Rule = api.Rule{Stop: 1, Go: 1, Calm: 240} },
		func(x *firm.Setup) { x.Rule.Calm++ },
		func(x *firm.Setup) { x.Rate = api.Rate{High: 200_000} },
		func(x *firm.Setup) { x.Rate.Come++ },
		func(x *firm.Setup) { x.Men = 1 },
		func(x *firm.Setup) { x.Men = 16 },
	} {
		right = append(right, with(change))
	}
	return right
}

// wrongSetups is setups that are not valid.
func wrongSetups() []firm.Setup {
	wrong := []firm.Setup{{}}
	for _, n := range []int{math.MinInt, -1, 0, 17, math.MaxInt} {
		wrong = append(wrong, with(func(x *firm.Setup) { x.Men = n }))
	}
	for _, n := range []int{0, 6, 9, 1 << 16} {
		wrong = append(wrong, with(func(x *firm.Setup) { x.Joints = make([][]api.Joint, n) }))
	}
	for _, change := range []func(x *firm.Setup){
		func(x *firm.Setup) { x.Stacks, x.Joints = nil, nil },
		func(x *firm.Setup) { x.Stacks = nil },
		func(x *firm.Setup) { x.Stacks = x.Stacks[:4] },
		func(x *firm.Setup) { x.Stacks = append(x.Stacks, x.Stacks[0]) },
		func(x *firm.Setup) {
			x.Stacks, x.Joints = append(x.Stacks, x.Stacks[:4]...), append(x.Joints, x.Joints[:4]...)
		},
		func(x *firm.Setup) { x.Stacks[0] = nil },
		func(x *firm.Setup) { x.Stacks[4] = nil },
		func(x *firm.Setup) { x.Stacks[4][0].In = 300 },
		func(x *firm.Setup) { x.Stacks[2] = slices.Repeat(courses(light), 61) },
		func(x *firm.Setup) { x.Joints[0][0].Height = 0 },
		func(x *firm.Setup) { x.Joints[4] = joints("5 5") },
		func(x *firm.Setup) { x.Climb.Lap = 39 },
		func(x *firm.Setup) { x.Gear = alike(65) },
		func(x *firm.Setup) { x.Gear[5].Mark = "beam" },
		func(x *firm.Setup) { x.Gear[0].Batch = "" },
		func(x *firm.Setup) { x.Rule.Go = 51 },
		func(x *firm.Setup) { x.Rate.High = 0 },
		func(x *firm.Setup) { x.Climb = api.Climb{} },
		func(x *firm.Setup) { x.Rule = api.Rule{} },
		func(x *firm.Setup) { x.Rate = api.Rate{} },
	} {
		wrong = append(wrong, with(change))
	}
	return wrong
}

// 10.1: ValidSetup and New.
func TestSetups(t *testing.T) {
	for i, x := range rightSetups() {
		if !firm.ValidSetup(x) {
			t.Errorf("the setup %d is not valid", i)
		}
		mustNew(t, x)
	}
	for i, x := range wrongSetups() {
		f, e := firm.New(x)
		if firm.ValidSetup(x) || f != nil || e != api.ErrInvalid {
			t.Errorf("the wrong setup %d: %v, error %d", i, f, e)
		}
	}
}

// 10.3: what a new firm tells.
func TestNew(t *testing.T) {
	f := mustNew(t, setup())
	wantSight(t, "a new firm", f, sight{goes: true, aloft: make([]int, 10), dogs: make([][]int, 10), felled: make([]bool, 10), gear: setup().Gear})
	want(t, "Do", firm.Do(f, "now\nmoney\ngoes\naloft 0\naloft 4\n"), "0\n0\nyes\n0\n0\n")
}

// 10.3: what a firm tells that is at work.
func TestSights(t *testing.T) {
	f := done(t, setup(), "day\ndog 0\ndog 2\nfell 3\nrig 0 beam:-1 spare:0\nrig 1 sling_a:-1\nrig 4 sling_b:-1\nup 0 2\nup 2 3\nlook hook\ncall old\ncall z\ncall hemp2\nstrike 1\nbill 0\ngust 49")
	gear := setup().Gear
	gear[4].Due = 181
	texts := "1:day,1:dog 0,1:dog 2,1:fell 3,1:rig 0 beam:-1 spare:0,1:rig 1 sling_a:-1,1:rig 4 sling_b:-1,1:up 0 2,1:up 2 3,1:look hook,1:call old,1:call z,1:call hemp2,1:strike 1,1:bill 0,1:gust 49"
	s := sight{
		now: 1, money: 1_000, goes: true,
		aloft: []int{2, 0, 3, 0, 0, 0, 0, 0, 0, 0},
		dogs:  [][]int{{0, 1, 2}, {}, {0, 1}, {}, {}, {}, {}, {}, {}, {}}, felled: []bool{false, false, false, true, false, false, false, false, false, false},
		rigs: [][]api.Link{links("beam:-1 spare:0"), {}, links("sling_b:-1")},
		gear: gear, back: []string{"old", "z", "hemp2"}, lines: entries(notes(texts)),
	}
	s.bytes = string(bytesOf(s.lines))
	wantSight(t, "the firm", f, s)
	for _, n := range wild {
		if n < 0 || n > 4 {
			want(t, "Aloft of no stack", f.Aloft(n), 0)
			want(t, "Dogs of no stack", len(f.Dogs(n)), 0)
			want(t, "Felled of no stack", f.Felled(n), false)
		}
	}
}

// 10.4: Same.
func TestSame(t *testing.T) {
	for i, x := range rightSetups() {
		for j, y := range rightSetups() {
			want(t, "Same", firm.Same(mustNew(t, x), mustNew(t, y)), i == j)
		}
	}
	scripts := []string{
		"", "day", "day\nday", "gust 5", "gust 6", "gust 5\ngust 5", "gust 5\nday", "day\ngust 5", "dog 0", "dog 2", "dog 0\ndog 2", "dog 2\ndog 0", "rig 0 beam:-1", "rig 1 beam:-1", "rig 0 beam:-1\nstrike 0", "rig 0 sling_a:-1", "rig 0 beam:-1 sling_a:0",
		"dog 0\nup 0 2", "dog 0\nup 0 3", "dog 0\nup 0 2\ndown 0 2", "look beam", "look spare", "look beam\nlook beam", "call a", "call b", "call a\ncall b", "call b\ncall a", "fell 0", "fell 3", "bill 0", "bill 3", "bill 1",
	}
	for i, s := range scripts {
		for j, other := range scripts {
			want(t, "Same of "+s+" and "+other, firm.Same(done(t, setup(), s), done(t, setup(), other)), i == j)
		}
		f := done(t, setup(), s)
		want(t, "Same of itself", firm.Same(f, f), true)
		for _, none := range nobody() {
			want(t, "Same of none", firm.Same(f, none) || firm.Same(none, f), false)
		}
	}
	for _, a := range nobody() {
		for _, b := range nobody() {
			want(t, "Same of none and none", firm.Same(a, b), false)
		}
	}
}

// 10.4: the setup counts, even if nothing of it is left in what firms tell.
func TestSameSetup(t *testing.T) {
	other := with(func(x *firm.Setup) { x.Gear[0].Due++ })
	want(t, "Same", firm.Same(done(t, setup(), "look beam"), done(t, other, "look beam")), false)
	want(t, "Same", firm.Same(done(t, other, "look beam"), done(t, other, "look beam")), true)
	empty := with(func(x *firm.Setup) { x.Joints[4], x.Gear = []api.Joint{}, []api.Item{} })
	want(t, "Same of nil and empty lists", firm.Same(mustNew(t, empty), mustNew(t, with(func(x *firm.Setup) { x.Gear = nil }))), true)
}
