package repair_test

import (
	"math"
	"slices"
	"strings"
	"testing"

	"stave/api"
	"stave/array"
	"stave/geo"
	"stave/rack"
	"stave/repair"
	"stave/stripe"
)

const id = 9

var g = api.Geometry{K: 2, M: 1, Blocks: 9}

func start(t *testing.T, g api.Geometry) (*rack.Rack, *array.Array) {
	t.Helper()
	k, _ := rack.New(geo.Slots(g), geo.Sectors(g))
	a, e := array.Format(k, id, g)
	if e != api.OK {
		t.Fatal(e)
	}
	for n := range g.Blocks {
		commit(t, a, n, n)
	}
	return k, a
}

func block(n int) string { return strings.Repeat(string([]byte{byte(n), byte(n >> 8), 'r'}), 40) }

func commit(t *testing.T, a *array.Array, n, seed int) {
	t.Helper()
	want(t, a.Commit([]api.Write{{Block: n, Data: block(seed)}}), api.OK)
}

func want(t *testing.T, got, want api.Errno) {
	t.Helper()
	if got != want {
		t.Fatal("the error", got, "and not", want)
	}
}

func wantStep(t *testing.T, a *array.Array, idle bool, e api.Errno) {
	t.Helper()
	if got, f := repair.Step(a); got != idle || f != e {
		t.Fatal("Step", got, f, "and not", idle, e)
	}
}

func wantAll(t *testing.T, a *array.Array, count int, e api.Errno) {
	t.Helper()
	if got, f := repair.All(a); got != count || f != e {
		t.Fatal("All", got, f, "and not", count, e)
	}
}

func wantBlocks(t *testing.T, a *array.Array, g api.Geometry) {
	t.Helper()
	for n := range g.Blocks {
		if s, e := a.Read(n); e != api.OK || s != block(n) {
			t.Fatal("block", n, e)
		}
	}
}

// wantCode looks whether all shards in some slots are good, and those of the code.
func wantCode(t *testing.T, k *rack.Rack, g api.Geometry, slots ...int) {
	t.Helper()
	other, _ := rack.New(k.Slots(), k.Sectors())
	for n := range geo.Stripes(g) {
		data, bad, e := stripe.Read(k, id, g, slots, n)
		if e != api.OK || len(bad) != 0 {
			t.Fatal("stripe", n, bad, e)
		}
		if _, e := stripe.Write(other, id, g, slots, api.Stripe{N: n, Data: data}); e != api.OK {
			t.Fatal(e)
		}
		for _, slot := range slots {
			x, _ := k.Read(slot, geo.Sector(g, n))
			if y, _ := other.Read(slot, geo.Sector(g, n)); x != y {
				t.Fatal("not the code", n, slot)
			}
		}
	}
}

func TestExample(t *testing.T) {
	k, a := start(t, g)
	k.Fail(1)
	commit(t, a, 3, 3)
	k.Blank(1)
	want(t, repair.Begin(a, 1), api.OK)
	for range 6 {
		wantStep(t, a, false, api.OK)
	}
	wantStep(t, a, true, api.OK)
	wantStep(t, a, true, api.OK)
	wantAll(t, a, 0, api.OK)
	want(t, repair.Begin(a, 1), api.ErrRepairSlot)
	k.Rot(2, geo.Sector(g, 3), 4, 4)
	wantAll(t, a, 1, api.OK)
	wantAll(t, a, 0, api.OK)
	wantBlocks(t, a, g)
}

func TestB1(t *testing.T) {
	check := func(a *array.Array, e api.Errno) {
		t.Helper()
		want(t, repair.Begin(a, 9), e)
		wantStep(t, a, false, e)
		wantAll(t, a, 0, e)
		if n, f := repair.Scrub(a, 99); n != 0 || f != e {
			t.Fatal("Scrub", n, f)
		}
	}
	check(nil, api.ErrArg)
	k, a := start(t, g)
	k.Arm(1)
	want(t, a.Commit([]api.Write{{Block: 1, Data: block(1)}}), api.ErrRackPower)
	k.Restart(nil)
	check(a, api.ErrRackPower)
	k, a = start(t, g)
	a.Set(0, api.SlotOut, 0)
	want(t, a.Set(1, api.SlotOut, 0), api.ErrArrayFailed)
	check(a, api.ErrArrayFailed)
}

func TestB2Begin(t *testing.T) {
	k, a := start(t, g)
	for _, slot := range []int{-1, 3, 0, 1, 2, math.MaxInt, math.MinInt} {
		want(t, repair.Begin(a, slot), api.ErrRepairSlot)
	}
	k.Fail(1)
	want(t, repair.Begin(a, 1), api.ErrRepairSlot) // it is in
	commit(t, a, 3, 3)
	acts := k.Acts()
	want(t, repair.Begin(a, 1), api.ErrRepairSlot) // its member has failed
	if k.Acts() != acts {
		t.Error("actions")
	}
	want(t, a.Error(), api.OK)
	k.Blank(1)
	want(t, repair.Begin(a, 1), api.OK)
	if l := a.Label(); l.States[1] != api.SlotBuilding || l.Cursors[1] != 0 || l.Gen != 3 || l.Born[1] != 3 || k.Acts() != acts+3+9 {
		t.Error(l, k.Acts()-acts)
	}
	want(t, repair.Begin(a, 1), api.ErrRepairSlot) // it is building
	// Without power: what the array answers.
	k, a = start(t, g)
	want(t, a.Set(1, api.SlotOut, 0), api.OK)
	k.Arm(1)
	want(t, repair.Begin(a, 1), api.ErrRackPower)
	want(t, a.Error(), api.ErrRackPower)
}

func TestB3Step(t *testing.T) {
	k, a := start(t, g)
	wantStep(t, a, true, api.OK)
	want(t, a.Set(1, api.SlotOut, 0), api.OK)
	wantStep(t, a, true, api.OK)
	k.Blank(1)
	want(t, repair.Begin(a, 1), api.OK)
	for n := range 5 {
		gen, acts := a.Label().Gen, k.Acts()
		wantStep(t, a, false, api.OK)
		if l := a.Label(); l.Cursors[1] != n+1 || l.States[1] != api.SlotBuilding || l.Gen != gen+1 || k.Acts() != acts+2+9 {
			t.Fatal(n, l, k.Acts()-acts)
		}
		for m := range 5 {
			_, bad, e := stripe.Read(k, id, g, []int{0, 1, 2}, m)
			if e != api.OK || (len(bad) == 0) != (m <= n) {
				t.Fatal(n, m, bad, e)
			}
		}
	}
	wantStep(t, a, false, api.OK)
	if l := a.Label(); l.States[1] != api.SlotIn || l.Cursors[1] != 0 {
		t.Fatal(l)
	}
	wantCode(t, k, g, 0, 1, 2)
	wantStep(t, a, true, api.OK)
}

func TestB3TheFirstSlot(t *testing.T) {
	k, a := start(t, g)
	k.Fail(0)
	commit(t, a, 3, 3)
	k.Blank(0)
	want(t, repair.Begin(a, 0), api.OK)
	for range 6 {
		wantStep(t, a, false, api.OK)
	}
	wantStep(t, a, true, api.OK)
	wantCode(t, k, g, 0, 1, 2)
}

func TestB3TheLowestFirst(t *testing.T) {
	g := api.Geometry{K: 2, M: 3, Blocks: 9}
	k, a := start(t, g)
	for _, slot := range []int{4, 1} {
		want(t, a.Set(slot, api.SlotOut, 0), api.OK)
		k.Blank(slot)
		want(t, repair.Begin(a, slot), api.OK)
	}
	want(t, a.Set(3, api.SlotOut, 0), api.OK)
	wantStep(t, a, false, api.OK)
	if l := a.Label(); l.Cursors[1] != 1 || l.Cursors[4] != 0 {
		t.Error(l)
	}
	for range 11 {
		wantStep(t, a, false, api.OK)
	}
	wantStep(t, a, true, api.OK)
	if l := a.Label(); !slices.Equal(l.States, []int{1, 1, 1, 0, 1}) {
		t.Error(l)
	}
	wantCode(t, k, g, 0, 1, 2, 4)
}

func TestB3MembersThatFail(t *testing.T) {
	k, a := start(t, g)
	want(t, a.Set(1, api.SlotOut, 0), api.OK)
	want(t, repair.Begin(a, 1), api.OK)
	wantStep(t, a, false, api.OK)
	k.Fail(1)
	gen := a.Label().Gen
	wantStep(t, a, false, api.OK)
	if l := a.Label(); l.States[1] != api.SlotOut || l.Cursors[1] != 0 || l.Gen != gen+1 {
		t.Error("the slot is out, and nothing else is done", l)
	}
	wantStep(t, a, true, api.OK)
	k.Blank(1)
	want(t, repair.Begin(a, 1), api.OK)
	wantStep(t, a, false, api.OK)
	k.Rot(0, geo.Sector(g, 1), 1, 1)
	wantStep(t, a, false, api.ErrArrayFailed)
	if l := a.Label(); l.Cursors[1] != 1 || l.States[1] != api.SlotBuilding {
		t.Error("a stripe that can't be read", l)
	}
	want(t, a.Error(), api.OK)
	k.Rot(0, geo.Sector(g, 1), 1, 1)
	wantStep(t, a, false, api.OK)
	k.Arm(1)
	wantStep(t, a, false, api.ErrRackPower)
	k.Restart(nil)
	wantStep(t, a, false, api.ErrRackPower)
	a, e := array.Mount(k, id)
	want(t, e, api.OK)
	if l := a.Label(); l.Cursors[1] != 2 {
		t.Error("the cursor is not durable", l)
	}
}

func TestB4Scrub(t *testing.T) {
	k, a := start(t, g)
	scrub := func(n, count int, e api.Errno) {
		t.Helper()
		if got, f := repair.Scrub(a, n); got != count || f != e {
			t.Fatal("Scrub", n, got, f, "and not", count, e)
		}
	}
	for _, n := range []int{-1, 5, math.MaxInt, math.MinInt} {
		scrub(n, 0, api.ErrGeoRange)
	}
	acts := k.Acts()
	scrub(3, 0, api.OK)
	if k.Acts() != acts {
		t.Error("actions for nothing")
	}
	k.Rot(2, geo.Sector(g, 3), 4, 4)
	scrub(2, 0, api.OK)
	scrub(3, 1, api.OK)
	if k.Acts() != acts+2 {
		t.Error("actions", k.Acts()-acts)
	}
	scrub(3, 0, api.OK)
	k.Rot(2, geo.Sector(g, 3), 4, 4)
	k.Rot(0, geo.Sector(g, 3), 4, 4)
	scrub(3, 0, api.ErrArrayFailed)
	wantAll(t, a, 0, api.ErrArrayFailed)
	want(t, a.Error(), api.OK)
	k.Rot(0, geo.Sector(g, 3), 4, 4)
	// A member that has failed is found by the way, and gets out.
	k.Fail(2)
	scrub(1, 1, api.OK)
	if l := a.Label(); l.States[2] != api.SlotOut {
		t.Error(l)
	}
	scrub(1, 0, api.OK)
	k.Rot(0, geo.Sector(g, 1), 4, 4)
	scrub(1, 0, api.ErrArrayFailed)
	// The power goes off at the patch.
	k, a = start(t, g)
	k.Rot(2, geo.Sector(g, 3), 4, 4)
	k.Arm(2)
	scrub(3, 0, api.ErrRackPower)
}

func TestB4All(t *testing.T) {
	g := api.Geometry{K: 2, M: 2, Blocks: 9}
	k, a := start(t, g)
	for _, x := range [][2]int{{0, 0}, {3, 0}, {1, 2}, {2, 4}, {0, 4}} {
		k.Rot(x[0], geo.Sector(g, x[1]), 77, 8)
	}
	wantAll(t, a, 5, api.OK)
	wantAll(t, a, 0, api.OK)
	wantCode(t, k, g, 0, 1, 2, 3)
	wantBlocks(t, a, g)
	// At the first error it stops: what stands before is corrected, what stands behind is not.
	for slot := range 3 {
		k.Rot(slot, geo.Sector(g, 2), 77, 8)
	}
	k.Rot(0, geo.Sector(g, 1), 77, 8)
	k.Rot(0, geo.Sector(g, 3), 77, 8)
	wantAll(t, a, 0, api.ErrArrayFailed)
	for n, want := range map[int]int{1: 0, 2: 3, 3: 1} {
		if _, bad, _ := a.Stripe(n); len(bad) != want {
			t.Error(n, bad)
		}
	}
}

// TestB5Interruptions lets the power go off at each action of a rebuilding, which goes on after the next mount.
func TestB5Interruptions(t *testing.T) {
	for n := 1; n < 90; n++ {
		k, a := start(t, g)
		k.Fail(1)
		commit(t, a, 3, 3)
		k.Blank(1)
		k.Arm(n)
		e := repair.Begin(a, 1)
		cursor, steps := 0, 0
		for e == api.OK {
			var idle bool
			if cursor = a.Label().Cursors[1]; steps > 10 {
				t.Fatal("too many steps")
			}
			if idle, e = repair.Step(a); idle {
				break
			}
			steps++
		}
		want(t, e, map[bool]api.Errno{true: api.ErrRackPower}[k.Off()])
		k.Restart([][]int{{n % 3, n % 2, 1}, {1, n % 2, n % 3}, {n % 2, 0, 2}})
		a, e = array.Mount(k, id)
		want(t, e, api.OK)
		if l := a.Label(); l.States[1] == api.SlotBuilding && l.Cursors[1] < cursor {
			t.Fatal("it does not go on where it was", n, l, cursor)
		}
		if a.Label().States[1] == api.SlotOut {
			want(t, repair.Begin(a, 1), api.OK)
		}
		calls := 1
		for idle := false; !idle; calls++ {
			var e api.Errno
			if idle, e = repair.Step(a); e != api.OK || calls > geo.Stripes(g)+2 {
				t.Fatal(n, calls, e)
			}
		}
		wantAll(t, a, 0, api.OK)
		wantCode(t, k, g, 0, 1, 2)
		k.Fail(n % 3)
		wantBlocks(t, a, g)
	}
}
