package lines

import (
	"strconv"
	"strings"

	"stave/api"
	"stave/command"
	"stave/engine"
	"stave/geo"
	"stave/pack"
	"stave/rack"
)

// id is that of all arrays of scripts.
const id = 7

// play is what the lines so far have made: a rack, and the engine on it; either may not be there.
type play struct {
	rack   *rack.Rack
	engine *engine.Engine
}

// word is the n-th word behind the first one; number is the number that it is.
func (l line) word(n int) string { return l[n] }

func (l line) number(n int) int {
	value, _ := strconv.Atoi(l[n])
	return value
}

// output does what a line says, and tells what came of it.
func (p *play) output(l line) string {
	switch l[0] {
	case "new":
		return p.create(l)
	case "fail", "blank", "rot", "cut", "boot":
		if p.rack == nil {
			return "nothing"
		}
		return p.handle(l)
	}
	if p.engine == nil {
		return "nothing"
	}
	switch l[0] {
	case "build", "step", "scrub", "label":
		return p.mend(l)
	}
	return p.do(l)
}

// create puts a new rack in the place of the old one, if the geometry allows it, and starts an engine on it.
func (p *play) create(l line) string {
	g := api.Geometry{K: l.number(1), M: l.number(2), Blocks: l.number(3)}
	k, e := rack.New(geo.Slots(g), geo.Sectors(g))
	if e != api.OK {
		return told("ok", e)
	}
	p.rack = k
	p.engine, e = engine.Start(k, id, g)
	return told("ok", e)
}

// told is an output, or the error in its place.
func told(output string, e api.Errno) string {
	if e != api.OK {
		return "error " + strconv.Itoa(int(e))
	}
	return output
}

// handle does what only needs the rack.
func (p *play) handle(l line) string {
	switch l[0] {
	case "fail":
		return done(p.rack.Fail(l.number(1)))
	case "blank":
		return done(p.rack.Blank(l.number(1)))
	case "rot":
		return done(p.rack.Rot(l.number(1), l.number(2), l.number(3), l.number(4)))
	case "cut":
		return told("ok", p.rack.Arm(l.number(1)))
	}
	return p.boot(l.word(1))
}

func done(ok bool) string {
	if ok {
		return "ok"
	}
	return "no"
}

// boot lets the power return, and boots.
func (p *play) boot(digits string) string {
	var choices [][]int
	for slot := range p.rack.Slots() {
		choices = append(choices, choice(digits, slot, p.rack.Sectors()))
	}
	p.rack.Restart(choices)
	var e api.Errno
	p.engine, e = engine.Boot(p.rack, id)
	return told("ok", e)
}

// choice is so many digits, from the one with an index on, over and over.
func choice(digits string, from, count int) []int {
	list := make([]int, count)
	for i := range count {
		list[i] = int(digits[(from+i)%len(digits)] - '0')
	}
	return list
}

// mend does what needs the engine, but is no command.
func (p *play) mend(l line) string {
	switch l[0] {
	case "build":
		return told("ok", p.engine.Begin(l.number(1)))
	case "step":
		idle, e := p.engine.Step()
		if idle {
			return told("done", e)
		}
		return told("ok", e)
	case "scrub":
		count, e := p.engine.Scrub()
		return told("scrub "+strconv.Itoa(count), e)
	}
	return "label " + state(p.engine.Label())
}

// state is the generation of a label, and how each slot stands.
func state(l api.Label) string {
	text := strconv.Itoa(l.Gen)
	for slot := range l.States {
		text += " " + strconv.Itoa(l.States[slot]) + ":" + strconv.Itoa(l.Born[slot]) + ":" + strconv.Itoa(l.Cursors[slot])
	}
	return text
}

// do executes the command that a line stands for.
func (p *play) do(l line) string {
	// A command that may not be has no encoding, and nor has the empty string a command.
	encoded, _ := command.Put(asked(l))
	e, data, _ := command.Told(p.engine.Do(encoded))
	switch l[0] {
	case "read":
		return told("has "+strings.TrimRight(data, "\x00"), e)
	case "list":
		return told("list"+volumes(data), e)
	case "stat":
		return told("stat"+numbers(data), e)
	}
	return told("ok", e)
}

// asked is the command that a line stands for.
func asked(l line) api.Command {
	switch l[0] {
	case "create":
		return api.Command{Op: api.OpCreate, Name: l.word(1), Count: l.number(2)}
	case "resize":
		return api.Command{Op: api.OpResize, Name: l.word(1), Count: l.number(2)}
	case "delete":
		return api.Command{Op: api.OpDelete, Name: l.word(1)}
	case "snap":
		return api.Command{Op: api.OpSnap, Name: l.word(1), Other: l.word(2)}
	case "write":
		data, _ := pack.Fill(l.word(3), api.BlockSize)
		return api.Command{Op: api.OpWrite, Name: l.word(1), At: l.number(2), Data: data}
	case "discard":
		return api.Command{Op: api.OpDiscard, Name: l.word(1), At: l.number(2), Count: l.number(3)}
	case "read":
		return api.Command{Op: api.OpRead, Name: l.word(1), At: l.number(2), Count: 1}
	case "list":
		return api.Command{Op: api.OpList}
	}
	return api.Command{Op: api.OpStat}
}

// volumes is the names and sizes that a reply lists.
func volumes(data string) string {
	text := ""
	for r := pack.New(data); r.Left() > 0 && !r.Bad(); {
		text += " " + r.Text(r.Num(1)) + ":" + strconv.Itoa(r.Num(2))
	}
	return text
}

// numbers is the three numbers that a reply tells.
func numbers(data string) string {
	r := pack.New(data)
	text := ""
	for range 3 {
		text += " " + strconv.Itoa(r.Num(1))
	}
	return text
}
