package engine_test

import (
	"maps"
	"slices"
	"strings"
	"testing"

	"stave/api"
	"stave/command"
	"stave/engine"
	"stave/geo"
	"stave/rack"
	"stave/rs"
	"stave/sector"
)

// The tests of this file hold of the whole: the document's promises P1 to P6.

// disk is what a volume should be; disks are all of them.
type disk struct {
	size   int
	blocks map[int]string
}

type disks map[string]disk

func (m disks) clone() disks {
	other := disks{}
	for name, d := range m {
		other[name] = disk{d.size, maps.Clone(d.blocks)}
	}
	return other
}

func isName(s string) bool {
	if s == "" || len(s) > 6 || s[0] < 'a' || s[0] > 'z' {
		return false
	}
	return strings.Trim(s, "abcdefghijklmnopqrstuvwxyz0123456789") == ""
}

// add is the error of a volume that gets another name.
func (m disks) add(name string) api.Errno {
	_, there := m[name]
	switch {
	case !isName(name):
		return api.ErrDirName
	case there:
		return api.ErrDirTwice
	case len(m) >= 8:
		return api.ErrDirFull
	}
	return api.OK
}

// do executes a command; of OpStat it tells only the volumes.
func (m disks) do(c api.Command) (string, api.Errno) {
	d, there := m[c.Name]
	needs := c.Op != api.OpCreate && c.Op != api.OpList && c.Op != api.OpStat
	if needs && !there {
		return "", api.ErrDirNone
	}
	within := func(count, most int) bool {
		return count >= 1 && count <= most && c.At+count <= d.size
	}
	switch c.Op {
	case api.OpCreate:
		if c.Count > 4096 {
			return "", api.ErrPoolRange
		}
		if e := m.add(c.Name); e != api.OK {
			return "", e
		}
		m[c.Name] = disk{c.Count, map[int]string{}}
	case api.OpDelete:
		delete(m, c.Name)
	case api.OpSnap:
		if e := m.add(c.Other); e != api.OK {
			return "", e
		}
		m[c.Other] = m.clone()[c.Name]
	case api.OpResize:
		if c.Count > 4096 {
			return "", api.ErrPoolRange
		}
		maps.DeleteFunc(d.blocks, func(at int, _ string) bool { return at >= c.Count })
		m[c.Name] = disk{c.Count, d.blocks}
	case api.OpWrite:
		count := len(c.Data) / 120
		if len(c.Data)%120 != 0 || !within(count, 4) {
			return "", api.ErrPoolRange
		}
		for i := range count {
			d.blocks[c.At+i] = c.Data[120*i : 120*(i+1)]
		}
	case api.OpDiscard:
		if !within(c.Count, 16) {
			return "", api.ErrPoolRange
		}
		for i := range c.Count {
			delete(d.blocks, c.At+i)
		}
	case api.OpRead:
		if !within(c.Count, 4) {
			return "", api.ErrPoolRange
		}
		s := ""
		for i := range c.Count {
			if b, ok := d.blocks[c.At+i]; ok {
				s += b
			} else {
				s += strings.Repeat("\x00", 120)
			}
		}
		return s, api.OK
	case api.OpList:
		s := ""
		for _, name := range slices.Sorted(maps.Keys(m)) {
			s += string([]byte{byte(len(name))}) + name + string([]byte{byte(m[name].size >> 8), byte(m[name].size)})
		}
		return s, api.OK
	case api.OpStat:
		return string([]byte{byte(len(m))}), api.OK
	}
	return "", api.OK
}

// dice yields numbers that look random, the same in each run.
type dice uint64

func (d *dice) below(limit int) int {
	*d = *d*6364136223846793005 + 1442695040888963407
	return int(uint64(*d)>>33) % limit
}

// command is one that may succeed or not.
func (d *dice) command(m disks, step int) api.Command {
	name := []string{"a", "b", "c3", "vol", "abcdef", "x", "y", "z", "zz", "A", "", "1", "toolong"}[d.below(13)]
	if all := slices.Sorted(maps.Keys(m)); len(all) > 0 && d.below(4) > 0 {
		name = all[d.below(len(all))]
	}
	at := []int{d.below(8), d.below(40), d.below(4100), 1 << 40}[min(d.below(5), d.below(5)/2+d.below(2), 3)]
	switch d.below(16) {
	case 0, 1:
		return api.Command{Op: api.OpCreate, Name: name, Count: []int{0, 8, 40, 300, 4096, 4097}[d.below(6)]}
	case 2:
		return api.Command{Op: api.OpDelete, Name: name}
	case 3:
		return api.Command{Op: api.OpSnap, Name: name, Other: []string{"a", "s1", "s2", "t", "S", ""}[d.below(6)]}
	case 4:
		return api.Command{Op: api.OpResize, Name: name, Count: []int{0, 8, 33, 300, 4096, 4097}[d.below(6)]}
	case 5, 6, 7:
		return api.Command{Op: api.OpDiscard, Name: name, At: at, Count: d.below(18)}
	case 8, 9:
		return api.Command{Op: api.OpRead, Name: name, At: at, Count: d.below(6)}
	case 10:
		return api.Command{Op: api.OpList}
	case 11:
		return api.Command{Op: api.OpStat}
	}
	data := ""
	for i := range d.below(5) {
		data += block(8*step + i)
	}
	if d.below(20) == 0 {
		data += "x"
	}
	return api.Command{Op: api.OpWrite, Name: name, At: at, Data: data}
}

// world is a rack, the engine on it, and what it should hold.
type world struct {
	t *testing.T
	d *dice
	k *rack.Rack
	m *engine.Engine
	g api.Geometry
	s disks
}

func begin(t *testing.T, seed int, g api.Geometry) *world {
	t.Helper()
	d := dice(seed)
	k, m := start(t, g)
	return &world{t, &d, k, m, g, disks{}}
}

// step executes a command and compares the reply; it tells whether the power went off. The state is then as before the command, and after is as behind it.
func (w *world) step(n int) (off bool, after disks) {
	w.t.Helper()
	c := w.d.command(w.s, n)
	free := w.free()
	after = w.s.clone()
	data, e := after.do(c)
	got := w.m.Do(encode(w.t, c))
	told, rest, _ := command.Told(got)
	switch {
	case told == api.ErrRackPower:
		return true, after
	case told == api.ErrPoolSpace:
		if e != api.OK || rest != "" || free >= 12 || w.free() != free {
			w.t.Fatal("ErrPoolSpace", n, c.Op, e, free)
		}
		return false, nil
	case c.Op == api.OpStat && len(rest) == 3:
		if rest[:1] != data || int(rest[1])+int(rest[2]) != w.g.Blocks {
			w.t.Fatalf("Stat %q", rest)
		}
	case told != e || rest != data:
		w.t.Fatalf("step %d, %v: %d %.9q, not %d %.9q", n, c, told, rest, e, data)
	}
	w.s = after
	return false, nil
}

// free is how many blocks are free.
func (w *world) free() int {
	s := w.m.Do("\x09")
	if len(s) != 5 {
		return 0
	}
	return int(s[4])
}

// holds tells whether the engine holds what some disks do; it looks also where others hold something.
func (w *world) holds(s, others disks) bool {
	w.t.Helper()
	list, _ := s.do(api.Command{Op: api.OpList})
	if w.m.Do("\x08") != ok+list {
		return false
	}
	for name, d := range s {
		places := slices.Concat(slices.Collect(maps.Keys(d.blocks)), slices.Collect(maps.Keys(others[name].blocks)))
		for i := range 12 {
			places = append(places, i, w.d.below(4096))
		}
		for _, at := range places {
			c := api.Command{Op: api.OpRead, Name: name, At: at, Count: 1}
			data, e := s.do(c)
			if w.m.Do(encode(w.t, c)) != command.Reply(e, data) {
				return false
			}
		}
	}
	return true
}

func (w *world) restart() {
	choices := make([][]int, w.k.Slots())
	way := w.d.below(4)
	for slot := range choices {
		for range 90 {
			choices[slot] = append(choices[slot], []int{0, -2, 1, w.d.below(5)}[way])
		}
	}
	w.k.Restart(choices)
}

// boot boots until the power stays on, and looks whether the state is one of two.
func (w *world) boot(after disks) {
	w.t.Helper()
	for range w.d.below(3) {
		w.k.Arm(w.d.below(60) + 1)
		if m, e := engine.Boot(w.k, id); e != api.OK && e != api.ErrRackPower || (m == nil) != (e != api.OK) {
			w.t.Fatal("Boot", e)
		}
		w.restart()
	}
	m, e := engine.Boot(w.k, id)
	if e != api.OK {
		w.t.Fatal("Boot", e)
	}
	w.m = m
	if w.holds(w.s, after) {
		return
	}
	if after == nil || !w.holds(after, w.s) {
		w.t.Fatal("neither before nor after")
	}
	w.s = after
}

// lost is how many members are dead, or not in.
func (w *world) lost() int {
	n := 0
	for slot, state := range w.m.Label().States {
		if state != api.SlotIn || !w.k.Alive(slot) {
			n++
		}
	}
	return n
}

// wantCode looks whether all shards of slots that are in are good, and those of the code.
func (w *world) wantCode() {
	w.t.Helper()
	l := w.m.Label()
	for n := range geo.Stripes(w.g) {
		shards, have := make([]string, w.k.Slots()), make([]bool, w.k.Slots())
		for slot, state := range l.States {
			if state != api.SlotIn {
				continue
			}
			index := geo.Index(w.g, n, slot)
			s, _ := w.k.Read(slot, geo.Sector(w.g, n))
			if shards[index], have[index] = sector.Open(id, slot, geo.Sector(w.g, n), s); !have[index] {
				w.t.Fatal("a shard is not good", n, slot)
			}
		}
		data, e := rs.Decode(w.g.M, shards, have)
		if e != api.OK {
			w.t.Fatal(e)
		}
		parity, _ := rs.Encode(data, w.g.M)
		for index, s := range slices.Concat(data, parity) {
			if have[index] && shards[index] != s {
				w.t.Fatal("a shard is not that of the code", n, index)
			}
		}
	}
}

// scrub corrects all shards; damaged tells whether some may be damaged.
func (w *world) scrub() bool {
	w.t.Helper()
	_, e := w.m.Scrub()
	if e == api.ErrRackPower {
		return false
	}
	if e != api.OK {
		w.t.Fatal("Scrub", e)
	}
	w.wantCode()
	return true
}

func geometries() []api.Geometry {
	return []api.Geometry{g, {K: 1, M: 1, Blocks: 60}, {K: 3, M: 2, Blocks: 40}, {K: 4, M: 3, Blocks: 200}, {K: 1, M: 3, Blocks: 24}}
}

func TestP1AMapFromNamesToDisks(t *testing.T) {
	t.Parallel()
	for seed := range 25 {
		w := begin(t, seed, geometries()[seed%5])
		for n := range 300 {
			if off, _ := w.step(n); off {
				t.Fatal("the power should be on")
			}
			if n%40 == 39 {
				w.restart()
				w.boot(nil)
			}
		}
		if !w.holds(w.s, nil) {
			t.Fatal("at the end")
		}
	}
}

func TestP2PowerFailures(t *testing.T) {
	t.Parallel()
	for seed := range 25 {
		w := begin(t, seed, geometries()[seed%5])
		for n := range 250 {
			w.k.Arm(w.d.below(90) + 1)
			if off, after := w.step(n); off {
				w.restart()
				w.boot(after)
			}
			w.k.Arm(0)
		}
	}
}

// TestP3LossesAndP5Rebuilding lets members fail, or be blank, and builds them again; the power goes off meanwhile.
func TestP3LossesAndP5Rebuilding(t *testing.T) {
	t.Parallel()
	for seed := range 25 {
		w := begin(t, seed+50, geometries()[seed%5])
		rebuilt := 0
		for n := range 250 {
			slot := w.d.below(w.k.Slots())
			isIn := w.m.Label().States[slot] == api.SlotIn && w.k.Alive(slot)
			switch w.d.below(8) {
			case 0:
				if w.lost() < w.g.M || !isIn {
					w.k.Fail(slot)
				}
			case 1:
				if w.lost() < w.g.M || !isIn {
					w.k.Fail(slot)
					w.k.Blank(slot)
					// Only a mount, or a write, finds that it is blank: what is blank must not count as in.
					w.restart()
					w.boot(nil)
				}
			case 2:
				if w.m.Label().States[slot] == api.SlotOut {
					w.k.Blank(slot)
				}
			}
			if w.d.below(3) > 0 {
				w.k.Arm(w.d.below(150) + 1)
			}
			off, after := w.step(n)
			if out := w.m.Label().States[slot] != api.SlotIn; !off && w.d.below(3) == 0 {
				off = w.build(slot)
				if out && w.m.Label().States[slot] == api.SlotIn {
					rebuilt++
				}
			}
			if off {
				w.restart()
				w.boot(after)
			}
			w.k.Arm(0)
		}
		if rebuilt == 0 {
			t.Error("nothing was built", seed)
		}
	}
}

// build builds a slot as far as the power lasts.
func (w *world) build(slot int) (off bool) {
	w.t.Helper()
	switch e := w.m.Begin(slot); e {
	case api.OK, api.ErrRepairSlot:
	case api.ErrRackPower:
		return true
	default:
		w.t.Fatal("Begin", e)
	}
	for range w.k.Slots() * (geo.Stripes(w.g) + 2) {
		before := w.m.Label()
		idle, e := w.m.Step()
		if e == api.ErrRackPower {
			return true
		}
		if e != api.OK {
			w.t.Fatal("Step", e)
		}
		if idle {
			w.wantRead()
			return false
		}
		now, at := w.m.Label(), slices.Index(before.States, api.SlotBuilding)
		if now.States[at] == api.SlotBuilding && now.Cursors[at] != before.Cursors[at]+1 || now.States[at] == api.SlotIn && before.Cursors[at] != geo.Stripes(w.g) {
			w.t.Fatal("the cursor", before, now)
		}
	}
	w.t.Fatal("too many steps")
	return false
}

func (w *world) wantRead() {
	w.t.Helper()
	if !w.holds(w.s, nil) {
		w.t.Fatal("after building")
	}
}

// TestP4Damage damages shards of at most M slots between two scrubs.
func TestP4Damage(t *testing.T) {
	t.Parallel()
	for seed := range 25 {
		w := begin(t, seed+100, geometries()[seed%5])
		victims := []int{}
		scrubs := 0
		for n := range 250 {
			if len(victims) < w.g.M {
				if slot := w.d.below(w.k.Slots()); !slices.Contains(victims, slot) {
					victims = append(victims, slot)
				}
			}
			for range w.d.below(4) {
				w.k.Rot(victims[w.d.below(len(victims))], geo.Sector(w.g, w.d.below(geo.Stripes(w.g))), w.d.below(128), w.d.below(255)+1)
			}
			w.k.Arm(w.d.below(300) + 1)
			off, after := w.step(n)
			if !off && w.d.below(10) == 0 {
				if off = !w.scrub(); !off {
					victims = nil
					scrubs++
				}
			}
			if off {
				w.restart()
				w.boot(after)
			}
			w.k.Arm(0)
		}
		if scrubs == 0 {
			t.Error("no scrub", seed)
		}
		w.k.Arm(0)
		if !w.scrub() || !w.holds(w.s, nil) {
			t.Fatal("at the end", seed)
		}
	}
}

// TestP3TooManyLosses: each reply is right, or it is ErrArrayFailed.
func TestP3TooManyLosses(t *testing.T) {
	t.Parallel()
	for seed := range 60 {
		w := begin(t, seed+200, geometries()[seed%5])
		for n := range 40 {
			w.step(n)
		}
		for range w.g.M + 1 + w.d.below(2) {
			slot := w.d.below(w.k.Slots())
			w.k.Fail(slot)
			if w.d.below(2) == 0 {
				w.k.Blank(slot)
			}
		}
		if seed%2 == 0 {
			w.restart()
			m, e := engine.Boot(w.k, id)
			if e != api.OK {
				if e != api.ErrArrayFailed && e != api.ErrArrayNone {
					t.Fatal(e)
				}
				continue
			}
			w.m = m
		}
		for n := range 60 {
			c := w.d.command(w.s, 1000+n)
			after := w.s.clone()
			data, e := after.do(c)
			told, rest, _ := command.Told(w.m.Do(encode(t, c)))
			if told == api.ErrArrayFailed || told == api.ErrPoolSpace {
				if rest != "" {
					t.Fatal("data beside an error")
				}
				continue
			}
			if told != e || c.Op != api.OpStat && rest != data {
				t.Fatal("a wrong reply", seed, n, c, told, e)
			}
			w.s = after
		}
	}
}

func TestP6Space(t *testing.T) {
	t.Parallel()
	for seed := range 25 {
		w := begin(t, seed+300, geometries()[seed%5])
		initial := w.free()
		if initial != w.g.Blocks-3 {
			t.Fatal(initial)
		}
		for n := range 200 {
			w.step(n)
			mapped := 0
			for _, d := range w.s {
				mapped += len(d.blocks)
			}
			if used := w.g.Blocks - w.free(); used > 3+4*mapped {
				t.Fatal("more than each mapped block with three nodes", used, mapped)
			}
		}
		for name := range w.s {
			wantDo(t, w.m, api.Command{Op: api.OpDelete, Name: name}, ok)
		}
		if w.free() != initial {
			t.Fatal("not all is free", w.free(), initial)
		}
	}
}

// TestDocExample is the example of the document.
func TestDocExample(t *testing.T) {
	for n := 1; n < 60; n++ {
		k, m := start(t, g)
		hello, world, again := block(1), block(2), block(3)
		wantDo(t, m, api.Command{Op: api.OpCreate, Name: "a", Count: 100}, ok)
		wantDo(t, m, api.Command{Op: api.OpWrite, Name: "a", At: 17, Data: hello}, ok)
		wantDo(t, m, api.Command{Op: api.OpSnap, Name: "a", Other: "b"}, ok)
		wantDo(t, m, api.Command{Op: api.OpWrite, Name: "a", At: 17, Data: world}, ok)
		k.Fail(1)
		k.Arm(n)
		got := m.Do(encode(t, api.Command{Op: api.OpWrite, Name: "b", At: 17, Data: again}))
		k.Restart([][]int{{n % 2, n % 3}, nil, {1, 0, 2}})
		m, e := engine.Boot(k, id)
		if e != api.OK {
			t.Fatal(e)
		}
		wantDo(t, m, api.Command{Op: api.OpRead, Name: "a", At: 17, Count: 1}, ok+world)
		told, data, _ := command.Told(m.Do(encode(t, api.Command{Op: api.OpRead, Name: "b", At: 17, Count: 1})))
		if told != api.OK || data != again && (got == ok || data != hello) {
			t.Fatal(n, told, got)
		}
	}
}
