package firm

import "steeplejack/api"

// command is what may change a firm.
type command interface {
	// text returns the Text of the command's line.
	text() string
	// do changes the state. If the command fails, it leaves by a refusal before anything has changed.
	do(s *state)
}

// refusal is by what a command leaves that fails.
type refusal struct{ why api.Errno }

// must leaves a command with an error, unless what must hold holds.
func must(holds bool, why api.Errno) {
	if !holds {
		panic(refusal{why})
	}
}

// run does a command and writes its line, or returns the error with which it fails.
func (f *Firm) run(c command) (e api.Errno) {
	defer func() {
		switch left := recover().(type) {
		case nil:
		case refusal:
			e = left.why
		default: // nothing else is expected, but no call may panic
			e = api.ErrInvalid
		}
	}()
	must(!f.none(), api.ErrInvalid)
	must(len(f.state.lines) < api.MaxLines, api.ErrLimit)
	c.do(f.state)
	f.state.write(c.text())
	return api.OK
}

// Gust adds a minute with a gust to the day, -1 for one without a reading.
func (f *Firm) Gust(g int) api.Errno { return f.run(&gust{g}) }

// Day begins the next day.
func (f *Firm) Day() api.Errno { return f.run(&day{}) }

// Dog sets the fewest dogs in a stack.
func (f *Firm) Dog(stack int) api.Errno { return f.run(&dog{stack}) }

// Rig makes a rig for a stack.
func (f *Firm) Rig(stack int, links []api.Link) api.Errno { return f.run(&hang{stack, links}) }

// Strike takes a rig down.
func (f *Firm) Strike(rig int) api.Errno { return f.run(&strike{rig}) }

// Up sends men up a stack.
func (f *Firm) Up(stack, men int) api.Errno { return f.run(&up{stack, men}) }

// Down calls men down from a stack.
func (f *Firm) Down(stack, men int) api.Errno { return f.run(&down{stack, men}) }

// Lift lifts loads at the ends of a rig.
func (f *Firm) Lift(rig int, loads []int) api.Errno { return f.run(&lift{rig, loads}) }

// Look looks at the item with a mark.
func (f *Firm) Look(mark string) api.Errno { return f.run(&look{mark}) }

// Call calls a batch back.
func (f *Firm) Call(batch string) api.Errno { return f.run(&call{batch}) }

// Fell fells a stack.
func (f *Firm) Fell(stack int) api.Errno { return f.run(&fell{stack}) }

// Bill takes in the price of work at a stack's whole height.
func (f *Firm) Bill(stack int) api.Errno { return f.run(&bill{stack}) }
