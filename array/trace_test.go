package array_test

import (
	"slices"
	"strings"
	"testing"

	"stave/api"
	"stave/array"
	"stave/geo"
	"stave/label"
	"stave/rack"
	"stave/record"
	"stave/rs"
	"stave/sector"
)

const id = 771

var g = api.Geometry{K: 2, M: 1, Blocks: 16}

func fresh(t *testing.T, g api.Geometry) *rack.Rack {
	t.Helper()
	k, e := rack.New(geo.Slots(g), geo.Sectors(g))
	if e != api.OK {
		t.Fatal(e)
	}
	return k
}

func format(t *testing.T, g api.Geometry) (*rack.Rack, *array.Array) {
	t.Helper()
	k := fresh(t, g)
	a, e := array.Format(k, id, g)
	if e != api.OK || a == nil {
		t.Fatal("Format", e)
	}
	return k, a
}

func mount(t *testing.T, k *rack.Rack) *array.Array {
	t.Helper()
	a, e := array.Mount(k, id)
	if e != api.OK || a == nil {
		t.Fatal("Mount", e)
	}
	return a
}

func want(t *testing.T, got, want api.Errno) {
	t.Helper()
	if got != want {
		t.Fatal("the error", got, "and not", want)
	}
}

// block is what a block may hold.
func block(seed int) string {
	return strings.Repeat(string([]byte{byte(seed), byte(seed >> 8), 'b'}), 40)
}

var zero = strings.Repeat("\x00", 120)

func wantBlock(t *testing.T, a *array.Array, n int, want string) {
	t.Helper()
	if got, e := a.Read(n); e != api.OK || got != want {
		t.Fatalf("Read %d: %.4q.. %d, not %.4q..", n, got, e, want)
	}
}

// deed is an action: a payload that is sealed and written, or a flush if at is negative.
type deed struct {
	slot, at int
	payload  string
}

func perform(t *testing.T, k *rack.Rack, l []deed) {
	t.Helper()
	for _, d := range l {
		if d.at < 0 {
			k.Flush(d.slot)
			continue
		}
		s, e := sector.Seal(id, d.slot, d.at, d.payload)
		if e != api.OK {
			t.Fatal("Seal", d)
		}
		k.Write(d.slot, d.at, s)
	}
}

func flushes(slots ...int) []deed {
	var l []deed
	for _, slot := range slots {
		l = append(l, deed{slot: slot, at: -1})
	}
	return l
}

// announces are the actions that announce a label in some slots.
func announces(t *testing.T, l api.Label, slots ...int) []deed {
	t.Helper()
	var list []deed
	for _, slot := range slots {
		l.Slot = slot
		text, e := label.Put(l)
		if e != api.OK {
			t.Fatal("label", l)
		}
		list = append(list, deed{slot, 0, text}, deed{slot, 1, text}, deed{slot: slot, at: -1})
	}
	return list
}

// shards are the actions that write a stripe to some slots.
func shards(g api.Geometry, s api.Stripe, slots ...int) []deed {
	parity, _ := rs.Encode(s.Data, g.M)
	all := slices.Concat(s.Data, parity)
	var l []deed
	for _, slot := range slots {
		l = append(l, deed{slot, geo.Sector(g, s.N), all[geo.Index(g, s.N, slot)]})
	}
	return l
}

// journals are the actions that write a record to some slots; of those that are dead only the first is done.
func journals(g api.Geometry, r api.Record, dead []int, slots ...int) []deed {
	head, body, _ := record.Lay(g, r)
	at := geo.Head(g, r.Seq)
	var l []deed
	var left []int
	for _, slot := range slots {
		for i, text := range body {
			l = append(l, deed{slot, at + 1 + i, text})
			if slices.Contains(dead, slot) {
				break
			}
		}
		if !slices.Contains(dead, slot) {
			left = append(left, slot)
		}
	}
	l = append(l, flushes(left...)...)
	for _, slot := range left {
		l = append(l, deed{slot, at, head})
	}
	return append(l, flushes(left...)...)
}

// wantDeeds lets the power go off at each action of what is done, and looks whether all actions before it were those of the list, and whether there are no others.
func wantDeeds(t *testing.T, start func() (*rack.Rack, *array.Array), do func(k *rack.Rack, a *array.Array) api.Errno, last api.Errno, list []deed) {
	t.Helper()
	for n := 1; n <= len(list)+1; n++ {
		k, a := start()
		same, _ := start()
		before := k.Acts()
		k.Arm(n)
		e := do(k, a)
		if n <= len(list) {
			if e != api.ErrRackPower || k.Acts() != before+n || !k.Off() {
				t.Fatal("action", n, "of", len(list), "error", e, "actions", k.Acts()-before)
			}
			if a != nil && (a.Error() != api.ErrRackPower || a.Commit(nil) != api.ErrRackPower) {
				t.Fatal("the error is not kept", n)
			}
		} else if e != last || k.Acts() != before+len(list) || k.Off() {
			t.Fatal("at the end: error", e, "actions", k.Acts()-before, "and not", len(list))
		}
		perform(t, same, list[:n-1])
		newest := slices.Repeat([]int{0}, 256)
		for slot := range k.Slots() {
			if k.Pending(slot) != same.Pending(slot) || !slices.Equal(k.Image(slot), same.Image(slot)) {
				t.Fatal("before action", n, "something else was done in slot", slot)
			}
		}
		for i := range newest {
			newest[i] = -2 // the first version, and of one version the only one
		}
		k.Restart(slices.Repeat([][]int{newest}, 7))
		same.Restart(slices.Repeat([][]int{newest}, 7))
		for slot := range k.Slots() {
			if !slices.Equal(k.Image(slot), same.Image(slot)) {
				t.Fatal("before action", n, "something else was written in slot", slot)
			}
		}
	}
}
