package firm_test

import (
	"slices"
	"strings"
	"testing"

	"steeplejack/api"
	"steeplejack/firm"
)

// commands makes all commands of a firm, and returns their errors.
func commands(f *firm.Firm, a, b int, r []api.Link, loads []int, name string) []api.Errno {
	return []api.Errno{f.Gust(a), f.Day(), f.Dog(a), f.Rig(a, r), f.Strike(a), f.Up(a, b), f.Down(a, b), f.Lift(a, loads), f.Look(name), f.Call(name), f.Fell(a), f.Bill(a)}
}

// Details: the methods of no firm return zero values and ErrInvalid.
func TestNone(t *testing.T) {
	for _, none := range nobody() {
		for _, n := range []int{0, 1, 2, 5, -1} {
			for _, e := range commands(none, n, 2, links("beam:-1"), []int{1}, "beam") {
				want(t, "a command of none", e, api.ErrInvalid)
			}
		}
		for _, e := range commands(none, 201, 99, nil, nil, "") {
			want(t, "a wrong command of none", e, api.ErrInvalid)
		}
		wantSight(t, "none", none, sight{aloft: make([]int, 10), dogs: make([][]int, 10), felled: make([]bool, 10)})
		want(t, "Do", firm.Do(none, "day\nnow"), "error 1\n")
	}
}

// R1, P1 and P10.1: no call panics, whatever its numbers and strings.
func TestWildArguments(t *testing.T) {
	for _, a := range wild {
		for _, b := range wild {
			f := done(t, setup(), "dog 0\nrig 0 beam:-1 hook:0\nup 0 2")
			r := []api.Link{{Mark: "spare", From: a}, {Mark: "shackle", From: b}}
			commands(f, a, b, r, []int{a, b}, "spare")
			commands(f, 0, a, r[:1], []int{b}, "spare")
			commands(f, 1, b, append(links("spare:-1"), r[1]), nil, "")
			f.Aloft(a)
			f.Dogs(a)
			f.Felled(a)
			x := setup()
			x.Men, x.Climb.Gap, x.Rule.Calm, x.Rate.Low, x.Gear[0].Load, x.Joints[0][0].Height, x.Stacks[0][0].Out = a, b, a, b, a, b, a
			firm.ValidSetup(x)
			firm.New(x)
			firm.Read(x, f.Bytes())
		}
	}
	f := done(t, setup(), "dog 0\nrig 0 beam:-1\nup 0 2")
	before := lookAt(f)
	for _, name := range append([]string{strings.Repeat("a", 1<<17)}, notNames...) {
		f.Look(name)
		f.Call(name)
		f.Rig(1, []api.Link{{Mark: name, From: -1}})
		f.Rig(1, []api.Link{{Mark: "spare", From: -1}, {Mark: name}})
		firm.Do(f, name)
		firm.Do(f, "look "+name+"\nrig 1 "+name+":-1\nlift 0 x"+name)
		firm.Read(setup(), []byte(name))
		firm.Read(setup(), []byte(name+"\n"+name+"\n"))
	}
	f.Rig(1, make([]api.Link, 1<<16))
	f.Lift(0, make([]int, 1<<16))
	wantSight(t, "wild commands", f, before)
	firm.Read(setup(), slices.Repeat([]byte("\n"), 1<<20))
	firm.Read(setup(), slices.Repeat([]byte("0 "), 1<<20))
	firm.ValidSetup(firm.Setup{Stacks: make([][]api.Course, 1<<16), Joints: make([][]api.Joint, 1<<16)})
}

// P10.1: calls of the largest setup, and of the longest book, end.
func TestLargest(t *testing.T) {
	x := with(func(x *firm.Setup) {
		x.Stacks, x.Joints = nil, nil
		x.Climb = api.Climb{First: 1, Gap: 2, Top: 200_000, Length: 4, Lap: 1, Strength: 1_000_000}
		x.Gear = alike(64)
		for range 8 {
			x.Stacks = append(x.Stacks, slices.Repeat(courses("2000:5000:4999:1000000:5000:-5000"), 60))
			var l []api.Joint
			for i := range 200 {
				l = append(l, api.Joint{Height: i + 1, Sound: true})
			}
			l[199].Height = 200_000
			x.Joints = append(x.Joints, l)
		}
	})
	f := mustNew(t, x)
	want(t, "Dog", f.Dog(7), api.ErrNone)
	x.Climb.Top = 199
	f = mustNew(t, x)
	want(t, "Do", firm.Do(f, "dog 0\ndog 7\nup 7 7\nheight 7\nbears 7\nsafe 7\n"), "ok\nok\nok\n120000\n1000000\n10000 0\n")
	firm.Do(f, numbered(100, "call b"))
	for range 2_000 {
		f.Gust(49)
	}
	want(t, "Lines", len(f.Lines()), 2_000)
	want(t, "Same", firm.Same(f, mustRead(t, x, f.Bytes())), true)
}

// R4, P10.1: a firm keeps nothing of its arguments, and does not change them.
func TestArgumentsStay(t *testing.T) {
	x := setup()
	script := []byte("day\n")
	f := mustNew(t, x)
	twin := mustNew(t, setup())
	spoil := func(x firm.Setup) {
		for i := range x.Stacks {
			clear(x.Stacks[i])
			clear(x.Joints[i])
		}
		clear(x.Stacks)
		clear(x.Joints)
		clear(x.Gear)
	}
	spoil(x)
	r, loads := links("beam:-1 sling_a:0 spare:0"), []int{5, 6, 7}
	for _, f := range []*firm.Firm{f, twin} {
		want(t, "Dog", f.Dog(0), api.OK)
		want(t, "Up", f.Up(0, 2), api.OK)
		want(t, "Rig", f.Rig(0, r), api.OK)
		want(t, "Lift", f.Lift(0, loads[:2]), api.OK)
		want(t, "Look", f.Look("beam"), api.OK)
	}
	want(t, "the links", slices.Equal(r, links("beam:-1 sling_a:0 spare:0")), true)
	want(t, "the loads", slices.Equal(loads, []int{5, 6, 7}), true)
	clear(r)
	clear(loads)
	want(t, "the next commands", firm.Do(f, "lift 0 5 6\nsafe 0\nbears 0\nbill 1\ndog 1\n"), firm.Do(twin, "lift 0 5 6\nsafe 0\nbears 0\nbill 1\ndog 1\n"))
	want(t, "Same", firm.Same(f, twin), true)
	want(t, "the rigs", slices.EqualFunc(f.Rigs(), twin.Rigs(), slices.Equal), true)

	y := setup()
	l := f.Bytes()
	again := mustRead(t, y, l)
	want(t, "the bytes", string(l), string(twin.Bytes()))
	spoil(y)
	clear(l)
	want(t, "Same", firm.Same(again, twin), true)
	wantSight(t, "Read", again, lookAt(twin))
	want(t, "Do", firm.Do(again, string(script)+"safe 0"), firm.Do(twin, string(script)+"safe 0"))

	// Lists with spare capacity stay as they are.
	spare := append(items("a:1:1:b"), items("c:1:1:d")...)
	z := with(func(z *firm.Setup) { z.Gear = spare[:1] })
	f = mustNew(t, z)
	want(t, "Look", f.Look("a"), api.OK)
	want(t, "the gear of the setup", slices.Equal(spare, items("a:1:1:b c:1:1:d")), true)
}

// spoil overwrites a list up to its capacity.
func spoil[T any](l []T) {
	clear(l[:cap(l)])
}

// R4, P10.1: results are new memory.
func TestNewMemory(t *testing.T) {
	f := weekDone(t)
	firm.Do(f, "look beam\nrig 1 beam:-1\nrig 2 spare:-1 sling_a:0\ndog 2\n")
	before := lookAt(f)
	for i, kept := range before.rigs {
		rigs := f.Rigs()
		for j, r := range rigs {
			if j != i {
				spoil(r)
			}
		}
		want(t, "a rig beside others that were overwritten", slices.Equal(rigs[i], kept), true)
		spoil(rigs)
	}
	spoil(f.Dogs(0))
	spoil(f.Dogs(1))
	spoil(f.Dogs(2))
	spoil(f.Gear())
	spoil(f.Back())
	spoil(f.Lines())
	spoil(f.Bytes())
	wantSight(t, "results that were overwritten", f, before)
	want(t, "Same", firm.Same(f, mustRead(t, setup(), f.Bytes())), true)
	want(t, "the dogs", len(f.Dogs(1)) > 0 && len(f.Dogs(2)) > 0, true)

	// Firms share no memory with each other either.
	x := setup()
	one, two := mustNew(t, x), mustNew(t, x)
	firm.Do(one, "look beam\ndog 0\nday\nfell 1\n")
	wantSight(t, "the other firm", two, lookAt(mustNew(t, setup())))
	want(t, "the setup", firm.Same(two, mustNew(t, x)), true)
}

// R4: nil and empty lists are alike.
func TestNilAndEmpty(t *testing.T) {
	empty := firm.Setup{Stacks: [][]api.Course{}, Joints: [][]api.Joint{}, Gear: []api.Item{}}
	want(t, "ValidSetup", firm.ValidSetup(empty), false)
	x := with(func(x *firm.Setup) { x.Gear, x.Joints[4] = []api.Item{}, []api.Joint{} })
	y := with(func(x *firm.Setup) { x.Gear, x.Joints[4] = nil, nil })
	a, b := mustNew(t, x), mustNew(t, y)
	script := "dog 4\nlook beam\nrig 0 beam:-1\nday\n"
	want(t, "Do", firm.Do(a, script), "error 8\nerror 5\nerror 1\nok\n")
	want(t, "Do", firm.Do(b, script), "error 8\nerror 5\nerror 1\nok\n")
	want(t, "Same", firm.Same(a, b), true)
	wantSight(t, "the other", a, lookAt(b))
	for _, l := range [][]byte{nil, {}} {
		want(t, "Same", firm.Same(mustRead(t, x, l), mustNew(t, y)), true)
	}
}

// P10.6: a command that fails changes nothing, also not what comes of the next ones.
func TestFailuresChangeNothing(t *testing.T) {
	r := random()
	for range 100 {
		x := randomSetup(r)
		f, clean := mustNew(t, x), mustNew(t, x)
		for _, line := range randomLines(r, x, 100) {
			printed := firm.Do(f, line)
			if strings.HasPrefix(printed, "error") {
				continue
			}
			want(t, line, firm.Do(clean, line), printed)
		}
		want(t, "Same", firm.Same(f, clean), true)
		wantSight(t, "without the failures", clean, lookAt(f))
	}
}

// R7: the same commands give the same firm.
func TestSameAgain(t *testing.T) {
	r := random()
	x := randomSetup(r)
	script := strings.Join(randomLines(r, x, 300), "\n")
	f := mustNew(t, x)
	printed := firm.Do(f, script)
	for range 10 {
		again := mustNew(t, x)
		want(t, "Do", firm.Do(again, script), printed)
		want(t, "Bytes", string(again.Bytes()), string(f.Bytes()))
		wantSight(t, "again", again, lookAt(f))
	}
}
