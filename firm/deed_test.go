package firm_test

import (
	"slices"
	"strconv"
	"strings"
	"testing"

	"steeplejack/api"
	"steeplejack/firm"
	"steeplejack/stack"
)

// The chapter's example.
func TestExample(t *testing.T) {
	play(t, setup(), `
		dog 0 = ok
		up 0 2 = ok
		gust 60 = error 11
		down 0 2 = ok
		gust 60 = ok
		up 0 2 = error 11
		gust 39 = ok
		up 0 2 = error 11
		gust 39 = ok
		up 0 2 = ok
	`)
	f := play(t, setup(), "day = ok")
	want(t, "the first line", f.Lines()[0], api.Entry{Number: 0, Day: 1, Text: "day", Sum: sum(0, 0, 1, "day")})
}

// 10.2: Gust.
func TestGust(t *testing.T) {
	f := play(t, setup(), `
		gust -2 = error 7
		gust 201 = error 7
		gust 0 = ok
		gust 49 = ok
		goes = yes
		gust 200 = ok
		goes = no
		gust 39 = ok
		gust 40 = ok
		gust 39 = ok
		goes = no
		gust 39 = ok
		goes = yes
		gust -1 = ok
		goes = no
		day = ok
		goes = yes
	`)
	for _, n := range wild {
		if n < -1 || n > 200 {
			want(t, "Gust", f.Gust(n), api.ErrRange)
		}
	}
	play(t, setup(), `
		dog 0 = ok
		dog 1 = ok
		up 0 2 = ok
		up 1 2 = ok
		gust 49 = ok
		gust 50 = error 11
		gust -1 = error 11
		gust 201 = error 7
		down 0 2 = ok
		gust 50 = error 11
		down 1 2 = ok
		gust 50 = ok
		gust -1 = ok
	`)
}

// 10.2: Day.
func TestDay(t *testing.T) {
	play(t, setup(), `
		day = ok
		now = 1
		dog 1 = ok
		up 1 2 = ok
		day = error 10
		now = 1
		down 1 2 = ok
		gust 99 = ok
		day = ok
		now = 2
		goes = yes
		dog 0 = ok
	`)
}

// 10.2: Dog.
func TestDog(t *testing.T) {
	f := play(t, setup(), `
		dog 5 = error 5
		dog -1 = error 5
		dog 3 = error 8
		dog 4 = error 8
		dog 0 = ok
		dog 0 = error 10
		gust 50 = ok
		dog 0 = error 10
		dog 1 = error 11
		dog 3 = error 11
		dog 9 = error 5
		day = ok
		fell 1 = ok
		fell 3 = ok
		gust -1 = ok
		dog 1 = error 10
		dog 3 = error 10
		day = ok
		dog 2 = ok
		fell 0 = ok
		dog 0 = error 10
	`)
	want(t, "the dogs of a felled stack", len(f.Dogs(0)), 0)
	want(t, "the dogs", slices.Equal(f.Dogs(2), []int{0, 1}), true)
}

// 10.2: Rig.
func TestRig(t *testing.T) {
	play(t, setup(), `
		rig 5 beam:-1 = error 5
		rig -1 beam:-1 = error 5
		rig 0 beam:0 = error 1
		rig 0 none:-1 = error 1
		rig 0 beam:-1 beam:0 = error 1
		rig 0 beam:-1 hook:1 = error 1
		rig 0 beam:-1 sling_a:0 sling_b:0 = 0
		rig 0 sling_a:-1 = error 12
		rig 1 spare:-1 sling_b:0 = error 12
		rig 1 spare:-1 beam:0 = error 12
		rig 1 spare:-1 shackle:0 hook:1 = 1
		strike 0 = ok
		rig 4 sling_a:-1 sling_b:0 = 2
		rig 4 beam:-1 sling_b:0 = error 12
		rig 4 beam:-1 = 3
		fell 0 = ok
		rig 0 beam:-1 = error 10
		rig 0 none:-1 = error 10
	`)
	play(t, setup(), `
		rig 0 shackle:-1 = 0
		strike 0 = ok
		day = ok
		rig 0 shackle:-1 = error 12
		rig 0 sling_b:-1 hook:0 = error 12
		rig 0 sling_b:-1 = 1
		strike 1 = ok
		look hook = ok
		rig 0 sling_b:-1 hook:0 = 2
		strike 2 = ok
		day = ok
		rig 0 sling_b:-1 hook:0 = error 12
		call hemp1 = ok
		rig 0 sling_a:-1 = error 12
		rig 0 spare:-1 = error 12
		rig 0 beam:-1 spare:0 = error 12
		call none = ok
		rig 0 beam:-1 hook:0 = 3
		gust 60 = ok
		look sling_b = ok
		rig 1 sling_b:-1 = 4
		call hemp2 = ok
	`)
}

// 10.2: fifty rigs are the most, those that are taken down included.
func TestMostRigs(t *testing.T) {
	f := mustNew(t, setup())
	for i := range 50 {
		want(t, "rig", firm.Do(f, "rig 0 beam:-1"), strconv.Itoa(i)+"\n")
		want(t, "Strike", f.Strike(i), api.OK)
	}
	want(t, "one more", f.Rig(0, links("beam:-1")), api.ErrInvalid)
	want(t, "one more, called back", firm.Do(f, "call steel\nrig 0 beam:-1"), "ok\nerror 1\n")
	want(t, "one more for no stack", f.Rig(9, links("beam:-1")), api.ErrName)
	want(t, "one more for a felled stack", firm.Do(f, "fell 0\nrig 0 beam:-1"), "ok\nerror 10\n")
	want(t, "all rigs", len(f.Rigs()), 50)

	many := mustNew(t, with(func(x *firm.Setup) { x.Gear = alike(64) }))
	for i := range 50 {
		want(t, "Rig", many.Rig(i%5, links("m"+strconv.Itoa(i)+":-1")), api.OK)
	}
	want(t, "one more", many.Rig(0, links("m50:-1")), api.ErrInvalid)
	want(t, "Strike", many.Strike(49), api.OK)
	want(t, "one more", many.Rig(0, links("m49:-1")), api.ErrInvalid)
}

// 10.2: with fifty rigs that hang, but for the last one, each item is still free or taken.
func TestItemsOfManyRigs(t *testing.T) {
	f := mustNew(t, with(func(x *firm.Setup) { x.Gear = alike(64) }))
	for i := range 49 {
		want(t, "Rig", f.Rig(i%5, links("m"+strconv.Itoa(i)+":-1")), api.OK)
		for j := range i + 1 {
			want(t, "Rig of an item that hangs", f.Rig(0, links("m60:-1 m"+strconv.Itoa(j)+":0")), api.ErrGear)
		}
	}
	want(t, "Rig", f.Rig(1, links("m60:-1 m49:0")), api.OK)
}

// 10.2: Strike.
func TestStrike(t *testing.T) {
	f := play(t, setup(), `
		strike 0 = error 5
		rig 0 beam:-1 = 0
		rig 1 hook:-1 = 1
		strike 2 = error 5
		strike -1 = error 5
		dog 1 = ok
		up 1 2 = ok
		strike 1 = error 10
		strike 0 = ok
		strike 0 = error 10
		down 1 2 = ok
		strike 1 = ok
		strike 1 = error 10
		gust 60 = ok
		rig 0 beam:-1 = 2
		strike 2 = ok
		rig 0 beam:-1 = 3
	`)
	want(t, "the rigs", slices.EqualFunc(f.Rigs(), [][]api.Link{nil, nil, nil, links("beam:-1")}, slices.Equal), true)
}

// 10.2: Up.
func TestUp(t *testing.T) {
	play(t, setup(), `
		up 5 2 = error 5
		up -1 1 = error 5
		up 0 1 = error 7
		up 0 0 = error 7
		up 0 -2 = error 7
		up 0 17 = error 7
		up 0 16 = error 10
		up 0 2 = error 10
		dog 0 = ok
		dog 1 = ok
		up 0 8 = error 10
		up 0 2 = ok
		up 0 2 = ok
		aloft 0 = 4
		up 1 4 = error 10
		up 1 1 = error 7
		up 1 3 = ok
		aloft 1 = 3
		up 0 2 = error 10
		down 1 3 = ok
		up 0 3 = ok
		down 0 7 = ok
		up 0 7 = ok
		down 0 7 = ok
		gust 60 = ok
		up 0 8 = error 10
		up 0 1 = error 7
		up 2 2 = error 10
		up 0 2 = error 11
		day = ok
		fell 0 = ok
		up 0 2 = error 10
	`)
	play(t, with(func(x *firm.Setup) { x.Climb.Top = 32 }), `
		dog 0 = ok
		bears 0 = error 8
		up 0 2 = ok
	`)
	play(t, with(func(x *firm.Setup) { x.Men = 1 }), `
		dog 0 = ok
		up 0 2 = error 10
		up 0 1 = error 7
	`)
	play(t, with(func(x *firm.Setup) { x.Men = 16 }), `
		dog 0 = ok
		up 0 17 = error 7
		up 0 16 = ok
		up 0 2 = error 10
		down 0 17 = error 7
		down 0 16 = ok
	`)
}

// 10.2: Down.
func TestDown(t *testing.T) {
	play(t, setup(), `
		down 5 2 = error 5
		down -1 0 = error 5
		down 0 0 = error 7
		down 0 -1 = error 7
		down 0 17 = error 7
		down 0 1 = error 10
		down 0 16 = error 10
		dog 0 = ok
		dog 1 = ok
		up 0 5 = ok
		up 1 2 = ok
		down 0 4 = error 10
		down 0 6 = error 10
		down 1 3 = error 10
		down 1 1 = error 10
		down 0 1 = ok
		down 0 2 = ok
		aloft 0 = 2
		down 0 1 = error 10
		down 0 2 = ok
		down 0 2 = error 10
		down 1 2 = ok
		aloft 1 = 0
	`)
}

// 10.2: Lift.
func TestLift(t *testing.T) {
	f := play(t, setup(), `
		lift 0 1 = error 5
		rig 0 beam:-1 sling_a:0 sling_b:0 = 0
		rig 1 spare:-1 = 1
		lift 2 1 = error 5
		lift -1 1 = error 5
		lift 0 1 1 = error 10
		dog 0 = ok
		up 0 2 = ok
		lift 1 1 = error 10
		lift 0 1 = error 9
		lift 0 1 1 1 = error 9
		lift 0 -1 = error 9
		lift 0 -1 1 = error 7
		lift 0 1 1000001 = error 7
		lift 0 1000000 1000000 = error 12
		lift 0 3000 7000 = ok
		lift 0 3000 7001 = error 12
		lift 0 3001 0 = error 12
		lift 0 0 8000 = ok
		lift 0 0 0 = ok
		call other = ok
		lift 0 0 0 = ok
		call hemp1 = ok
		lift 0 0 0 = error 12
		lift 0 1 = error 9
		lift 0 1 -1 = error 7
		down 0 2 = ok
		lift 0 0 0 = error 10
		strike 0 = ok
		up 0 2 = ok
		lift 0 0 0 = error 10
		lift 0 1 = error 10
	`)
	want(t, "the rigs", slices.EqualFunc(f.Rigs(), [][]api.Link{nil, links("spare:-1")}, slices.Equal), true)
	play(t, setup(), `
		rig 0 sling_b:-1 = 0
		day = ok
		dog 0 = ok
		up 0 2 = ok
		lift 0 8000 = ok
		down 0 2 = ok
		day = ok
		up 0 2 = ok
		lift 0 8000 = error 12
		lift 0 0 = error 12
		look sling_b = ok
		lift 0 8000 = ok
		lift 0 8001 = error 12
	`)
}

// 10.2: Look.
func TestLook(t *testing.T) {
	f := play(t, setup(), `
		look none = error 5
		look steel = error 5
		look hook = ok
		day = ok
		day = ok
		look spare = ok
		look sling_a = ok
		rig 0 beam:-1 = 0
		look beam = ok
		call old = ok
		look hook = ok
	`)
	want(t, "the gear", slices.Equal(f.Gear(), items("beam:10000:182:steel sling_a:3000:182:hemp1 sling_b:8000:1:hemp2 shackle:2000:0:steel hook:500:182:old spare:9000:182:hemp1")), true)
	for _, mark := range notNames {
		want(t, "Look", f.Look(mark), api.ErrName)
	}
}

// 10.2: Call.
func TestCall(t *testing.T) {
	f := play(t, setup(), `
		call hemp1 = ok
		call hemp1 = error 6
		call Hemp1 = error 1
		call a = ok
		call abcdefghijklmnop = ok
		call b_9 = ok
		call a = error 6
	`)
	want(t, "the batches", slices.Equal(f.Back(), []string{"hemp1", "a", "abcdefghijklmnop", "b_9"}), true)
	for _, batch := range notNames {
		want(t, "Call", f.Call(batch), api.ErrInvalid)
	}
	f = done(t, setup(), numbered(100, "call b"))
	want(t, "one more", f.Call("c"), api.ErrLimit)
	want(t, "one once more", f.Call("b99"), api.ErrDuplicate)
	want(t, "no name", f.Call("9b"), api.ErrInvalid)
	want(t, "all batches", len(f.Back()), 100)
	want(t, "with all batches", firm.Do(f, "rig 0 beam:-1\ndog 0\nup 0 2\nlift 0 10000\nlift 0 10001\n"), "0\nok\nok\nok\nerror 12\n")
}

// 10.2: Fell.
func TestFell(t *testing.T) {
	f := play(t, setup(), `
		fell 5 = error 5
		fell -1 = error 5
		fell 2 = error 11
		dog 0 = ok
		up 0 2 = ok
		fell 1 = error 10
		fell 0 = error 10
		fell 2 = error 10
		down 0 2 = ok
		rig 1 beam:-1 = 0
		rig 0 hook:-1 = 1
		fell 1 = error 10
		strike 0 = ok
		gust 60 = ok
		fell 0 = error 10
		fell 1 = error 11
		gust 30 = ok
		gust 32 = ok
		goes = yes
		fell 1 = error 11
		gust 31 = ok
		fell 1 = ok
		fell 1 = error 10
		fell 4 = ok
		strike 1 = ok
		fell 0 = ok
		dog 0 = error 10
		height 0 = 3500
	`)
	for i, felled := range []bool{true, true, false, false, true, false} {
		want(t, "Felled", f.Felled(i), felled)
	}
	play(t, setup(), `
		gust 49 = ok
		fell 1 = error 11
		day = ok
		fell 1 = ok
		gust -1 = ok
		fell 1 = error 10
		fell 4 = error 11
	`)
}

// 10.2: a stack is felled only if it stands in the wind of the last gust from all sides.
func TestFellInWind(t *testing.T) {
	lean := courses("2000:300:100:20:0:100 1000:300:0:10:0:150")
	for quarters := range 4 {
		l, _ := stack.Turned(lean, quarters)
		for gust := range 50 {
			f := mustNew(t, with(func(x *firm.Setup) { x.Stacks[1] = l }))
			all := true
			for side := range 4 {
				stands, e := stack.Stands(l, gust*gust/20, side)
				all = all && stands
				want(t, "Stands: error", e, api.OK)
			}
			wantE := api.OK
			if !all {
				wantE = api.ErrWind
			}
			want(t, "Gust", f.Gust(gust), api.OK)
			want(t, "Fell with the gust "+strconv.Itoa(gust), f.Fell(1), wantE)
		}
	}
}

// 10.2: Bill.
func TestBill(t *testing.T) {
	play(t, setup(), `
		bill 5 = error 5
		bill -1 = error 5
		bill 0 = ok
		money = 1000
		bill 0 = ok
		bill 1 = ok
		money = 2700
		gust 60 = ok
		bill 4 = ok
		day = ok
		fell 4 = ok
		bill 4 = ok
		bill 2 = ok
		money = 5100
	`)
	dear := with(func(x *firm.Setup) {
		x.Stacks[0] = slices.Repeat(courses("2000:900:500:5000:0:0"), 60)
		x.Rate = api.Rate{Low: 1_000_000, High: 60_000, Above: 1_000_000, Come: 1_000_000}
	})
	f := done(t, dear, strings.Repeat("bill 0\n", 2_000))
	want(t, "Money", f.Money(), 2_000*121_000_000)
}

// 10.2: no command goes beyond the last line of the book, whatever else is wrong with it.
func TestFullBook(t *testing.T) {
	f := done(t, setup(), "dog 0\nrig 0 beam:-1\nup 0 2\n"+strings.Repeat("bill 0\n", 1_996))
	want(t, "a failing command", f.Fell(0), api.ErrState)
	want(t, "the last line", f.Gust(5), api.OK)
	want(t, "Lines", len(f.Lines()), 2_000)
	before := lookAt(f)
	for _, text := range []string{
		"gust 5", "gust 60", "gust 201", "day", "dog 1", "dog 0", "dog 9", "rig 0 hook:-1", "rig 0 beam:-1", "rig 9 beam:-1", "rig 0 x:5", "strike 0", "strike 9", "up 0 2", "up 9 1", "down 0 2", "down 9 9", "lift 0 1", "lift 9 1",
		"look beam", "look none", "call a", "call A", "fell 1", "fell 9", "bill 0", "bill 9",
	} {
		want(t, text, command(f, text), api.ErrLimit)
		want(t, text, firm.Do(f, text), "error 4\n")
	}
	want(t, "Rig with no links", f.Rig(0, nil), api.ErrLimit)
	want(t, "Lift with no loads", f.Lift(0, nil), api.ErrLimit)
	want(t, "queries", firm.Do(f, "aloft 0\nmoney\ngust\n"), "2\n1996000\nerror 14\n")
	wantSight(t, "a full book", f, before)
}

// 10.2: as many gusts as the book has lines are those of a day.
func TestMostGusts(t *testing.T) {
	f := done(t, setup(), strings.Repeat("gust 49\n", 1_999))
	want(t, "the last gust", f.Gust(50), api.OK)
	want(t, "Goes", f.Goes(), false)
	want(t, "one more", f.Gust(5), api.ErrLimit)
}

// Details: Rig and Lift with no links or no loads fail like any others that are wrong.
func TestNothing(t *testing.T) {
	f := done(t, setup(), "fell 1\nrig 0 beam:-1")
	for _, none := range [][]api.Link{nil, {}} {
		want(t, "Rig", f.Rig(0, none), api.ErrInvalid)
		want(t, "Rig of a felled stack", f.Rig(1, none), api.ErrState)
		want(t, "Rig of no stack", f.Rig(5, none), api.ErrName)
	}
	for _, none := range [][]int{nil, {}} {
		want(t, "Lift with nobody up", f.Lift(0, none), api.ErrState)
		want(t, "Lift of no rig", f.Lift(1, none), api.ErrName)
		f := done(t, setup(), "rig 0 beam:-1\ndog 0\nup 0 2\n")
		want(t, "Lift", f.Lift(0, none), api.ErrSize)
	}
}
