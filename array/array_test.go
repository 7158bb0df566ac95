package array_test

import (
	"math"
	"slices"
	"testing"

	"stave/api"
	"stave/array"
	"stave/geo"
	"stave/journal"
	"stave/label"
	"stave/rack"
	"stave/sector"
	"stave/stripe"
)

// of is the label of an array of g.
func of(g api.Geometry, gen int, change ...func(l *api.Label)) api.Label {
	n := geo.Slots(g)
	l := api.Label{ID: id, Geo: g, Gen: gen, States: slices.Repeat([]int{1}, n), Born: slices.Repeat([]int{1}, n), Cursors: make([]int, n)}
	for _, c := range change {
		c(&l)
	}
	return l
}

func out(slots ...int) func(l *api.Label) {
	return func(l *api.Label) {
		for _, slot := range slots {
			l.States[slot], l.Cursors[slot] = 0, 0
		}
	}
}

func wantLabel(t *testing.T, a *array.Array, want api.Label) {
	t.Helper()
	if got := a.Label(); !label.Same(got, want) {
		t.Fatal("the label", got, "and not", want)
	}
}

// commit writes some blocks, each with its number and a seed.
func commit(t *testing.T, a *array.Array, seed int, blocks ...int) {
	t.Helper()
	var l []api.Write
	for _, n := range blocks {
		l = append(l, api.Write{Block: n, Data: block(seed + n)})
	}
	want(t, a.Commit(l), api.OK)
}

func wantBlocks(t *testing.T, a *array.Array, seed int, blocks ...int) {
	t.Helper()
	for _, n := range blocks {
		wantBlock(t, a, n, block(seed+n))
	}
}

func TestA1Format(t *testing.T) {
	for _, g := range []api.Geometry{g, {K: 1, M: 1, Blocks: 8}, {K: 4, M: 3, Blocks: 30}, {K: 3, M: 2, Blocks: 200}} {
		k, a := format(t, g)
		wantLabel(t, a, of(g, 1))
		if a.Seq() != 0 || a.Error() != api.OK {
			t.Error(a.Seq(), a.Error())
		}
		for n := range g.Blocks {
			wantBlock(t, a, n, zero)
		}
		n := geo.Slots(g)
		if k.Acts() != n*(2+geo.Stripes(g)+1+3) {
			t.Error("actions", k.Acts())
		}
		for slot := range n {
			if k.Pending(slot) != 0 || !journal.Tells(k, id, g, slot) {
				t.Error("slot", slot)
			}
		}
		wantLabel(t, mount(t, k), of(g, 2))
	}
}

func TestA1FormatDeeds(t *testing.T) {
	g := api.Geometry{K: 2, M: 1, Blocks: 9}
	var list []deed
	for slot := range 3 {
		list = append(list, deed{slot: slot, at: geo.Head(g, 0)}, deed{slot: slot, at: geo.Head(g, 1)})
	}
	for n := range 5 {
		list = append(list, shards(g, api.Stripe{N: n, Data: []string{zero, zero}}, 0, 1, 2)...)
	}
	list = append(list, flushes(0, 1, 2)...)
	do := func(k *rack.Rack, _ *array.Array) api.Errno {
		a, e := array.Format(k, id, g)
		if (a != nil) != (e == api.OK) {
			t.Fatal("an array beside an error", e)
		}
		return e
	}
	wantDeeds(t, func() (*rack.Rack, *array.Array) { return fresh(t, g), nil }, do, api.OK, append(slices.Clone(list), announces(t, of(g, 1), 0, 1, 2)...))
	// With a member that has failed, all is written, but the label is not announced.
	wantDeeds(t, func() (*rack.Rack, *array.Array) {
		k := fresh(t, g)
		k.Fail(1)
		return k, nil
	}, do, api.ErrArrayFailed, list)
}

func TestA1FormatErrors(t *testing.T) {
	k := fresh(t, g)
	few, _ := rack.New(2, 256)
	small, _ := rack.New(3, geo.Sectors(g)-1)
	for i, x := range []struct {
		k  *rack.Rack
		id int
		g  api.Geometry
	}{{nil, id, g}, {few, id, g}, {small, id, g}, {k, 0, g}, {k, -1, g}, {k, 65536, g}, {k, id, api.Geometry{}}, {k, id, api.Geometry{K: 2, M: 1, Blocks: 201}}, {k, id, api.Geometry{K: 1, M: 1, Blocks: 16}}} {
		if a, e := array.Format(x.k, x.id, x.g); a != nil || e != api.ErrArg {
			t.Error(i, e)
		}
	}
	if k.Acts() != 0 {
		t.Error("actions", k.Acts())
	}
	k.Arm(1)
	k.Flush(0)
	if a, e := array.Format(k, id, g); a != nil || e != api.ErrRackPower || k.Acts() != 1 {
		t.Error(e)
	}
	if _, e := array.Format(k, 0, g); e != api.ErrArg {
		t.Error(e)
	}
}

func TestExample(t *testing.T) {
	k, a := format(t, g)
	want(t, a.Commit([]api.Write{{Block: 3, Data: block(1)}}), api.OK)
	k.Fail(1)
	wantBlock(t, a, 3, block(1))
	wantLabel(t, a, of(g, 1))
	want(t, a.Commit([]api.Write{{Block: 4, Data: block(2)}}), api.OK)
	wantLabel(t, a, of(g, 2, out(1)))
	k.Restart(nil)
	a = mount(t, k)
	wantLabel(t, a, of(g, 3, out(1)))
	wantBlock(t, a, 3, block(1))
	wantBlock(t, a, 4, block(2))
	k.Fail(0)
	if s, e := a.Read(3); s != "" || e != api.ErrArrayFailed {
		t.Error(e)
	}
}

func TestA2MountErrors(t *testing.T) {
	k, _ := format(t, g)
	for i, x := range []struct {
		k  *rack.Rack
		id int
		e  api.Errno
	}{{nil, id, api.ErrArg}, {k, 0, api.ErrArg}, {k, -1, api.ErrArg}, {k, 65536, api.ErrArg}, {k, id + 1, api.ErrArrayNone}, {k, 65535, api.ErrArrayNone}, {k, 1, api.ErrArrayNone}, {fresh(t, g), id, api.ErrArrayNone}} {
		acts := k.Acts()
		if a, e := array.Mount(x.k, x.id); a != nil || e != x.e || k.Acts() != acts {
			t.Error(i, e)
		}
	}
	tiny, _ := rack.New(3, 1)
	if a, e := array.Mount(tiny, id); a != nil || e != api.ErrArrayNone {
		t.Error("one sector", e)
	}
	k.Arm(1)
	k.Flush(0)
	if a, e := array.Mount(k, id); a != nil || e != api.ErrRackPower {
		t.Error("without power", e)
	}
	if _, e := array.Mount(k, 0); e != api.ErrArg {
		t.Error("arguments first", e)
	}
}

// sign lays a label in both label sectors of a slot.
func sign(t *testing.T, k *rack.Rack, slot int, l api.Label) {
	t.Helper()
	perform(t, k, announces(t, l, slot))
}

func TestA2WhatIsFound(t *testing.T) {
	// A rack whose sectors are too few for the label that is found.
	small, _ := rack.New(3, geo.Sectors(g)-1)
	sign(t, small, 0, of(g, 5))
	if a, e := array.Mount(small, id); a != nil || e != api.ErrArrayNone {
		t.Error("too few sectors", e)
	}
	text := func(l api.Label) string {
		s, _ := label.Put(l)
		return s
	}
	k, _ := format(t, g)
	older, newer := of(g, 7, out(2)), of(g, 8, out(2))
	// Only sector 1 of slot 0 has the newest label.
	perform(t, k, []deed{{0, 0, text(older)}, {0, 1, text(newer)}, {slot: 0, at: -1}})
	wantLabel(t, mount(t, k), of(g, 9, out(2)))
	k, _ = format(t, g)
	perform(t, k, []deed{{0, 0, text(newer)}, {0, 1, text(older)}, {slot: 0, at: -1}})
	wantLabel(t, mount(t, k), of(g, 9, out(2)))
	// Of two with the same generation, that of sector 0.
	k, _ = format(t, g)
	perform(t, k, []deed{{0, 0, text(newer)}, {0, 1, text(of(g, 8))}, {slot: 0, at: -1}})
	wantLabel(t, mount(t, k), of(g, 9, out(2)))
	k, _ = format(t, g)
	perform(t, k, []deed{{0, 0, text(of(g, 8))}, {0, 1, text(newer)}, {slot: 0, at: -1}})
	wantLabel(t, mount(t, k), of(g, 9))
	// What does not open, and what is no label, does not count.
	k, _ = format(t, g)
	perform(t, k, []deed{{0, 0, text(newer)}, {0, 1, "x"}, {slot: 0, at: -1}})
	wantLabel(t, mount(t, k), of(g, 9, out(2)))
	k, _ = format(t, g)
	perform(t, k, []deed{{0, 0, text(older)}, {0, 1, text(newer)}, {slot: 0, at: -1}})
	k.Rot(0, 1, 0, 1)
	wantLabel(t, mount(t, k), of(g, 8, out(2)))
	// A label of another slot does not count, even if its generation is greater.
	k, _ = format(t, g)
	other := of(g, 30, out(0))
	other.Slot = 2
	perform(t, k, []deed{{1, 0, text(other)}, {slot: 1, at: -1}})
	wantLabel(t, mount(t, k), of(g, 2, out(1)))
}

func TestA2LabelOfAnotherSlotIsTakenWithSlot0(t *testing.T) {
	k, _ := format(t, g)
	sign(t, k, 2, of(g, 4))
	a := mount(t, k)
	wantLabel(t, a, of(g, 5))
}

func TestA2SlotsThatAreNotUsable(t *testing.T) {
	for i, spoil := range []func(k *rack.Rack){
		func(k *rack.Rack) { k.Fail(1) },
		func(k *rack.Rack) { k.Blank(1) },
		func(k *rack.Rack) { k.Rot(1, 0, 3, 1); k.Rot(1, 1, 3, 1) },
		func(k *rack.Rack) { k.Rot(1, geo.Head(g, 0), 3, 1) },
		func(k *rack.Rack) { k.Rot(1, geo.Head(g, 1), 3, 1) },
		func(k *rack.Rack) { k.Rot(1, geo.Head(g, 1)+2, 3, 1) }, // the body of the record 1
		func(k *rack.Rack) { sign(t, k, 1, of(g, 1, func(l *api.Label) { l.Born[1] = 0 })) },
		func(k *rack.Rack) { sign(t, k, 1, of(api.Geometry{K: 2, M: 1, Blocks: 17}, 1)) },
	} {
		k, a := format(t, g)
		commit(t, a, 50, 3, 4)
		spoil(k)
		a = mount(t, k)
		wantLabel(t, a, of(g, 2, out(1)))
		wantBlocks(t, a, 50, 3, 4)
		if a.Seq() != 1 {
			t.Error(i, a.Seq())
		}
		k.Fail(2)
		acts := k.Acts()
		if a, e := array.Mount(k, id); a != nil || e != api.ErrArrayFailed || k.Acts() != acts {
			t.Error("two are lost", i, e)
		}
	}
	// What needs no record does not make a slot unreadable.
	k, a := format(t, g)
	commit(t, a, 50, 3)
	k.Rot(1, geo.Head(g, 1)+3, 3, 1)
	k.Rot(1, geo.Head(g, 0)+1, 3, 1)
	k.Rot(1, 0, 3, 1)
	wantLabel(t, mount(t, k), of(g, 2))
}

func TestA2MountDeeds(t *testing.T) {
	start := func(spoil func(k *rack.Rack)) func() (*rack.Rack, *array.Array) {
		return func() (*rack.Rack, *array.Array) {
			k, a := format(t, g)
			commit(t, a, 50, 3, 4)
			spoil(k)
			return k, nil
		}
	}
	r := api.Record{Seq: 1, Stripes: []api.Stripe{{N: 1, Data: []string{zero, block(53)}}, {N: 2, Data: []string{block(54), zero}}}}
	list := func(l api.Label, slots ...int) []deed {
		l1 := announces(t, l, slots...)
		l1 = append(l1, journals(g, r, nil, slots...)...)
		for _, s := range r.Stripes {
			l1 = append(l1, shards(g, s, slots...)...)
		}
		return append(l1, flushes(slots...)...)
	}
	do := func(k *rack.Rack, _ *array.Array) api.Errno {
		_, e := array.Mount(k, id)
		return e
	}
	wantDeeds(t, start(func(k *rack.Rack) {}), do, api.OK, list(of(g, 2), 0, 1, 2))
	wantDeeds(t, start(func(k *rack.Rack) { k.Blank(1) }), do, api.OK, list(of(g, 2, out(1)), 0, 2))
	// Without a record, nothing is applied.
	wantDeeds(t, func() (*rack.Rack, *array.Array) {
		k, _ := format(t, g)
		return k, nil
	}, do, api.OK, announces(t, of(g, 2), 0, 1, 2))
	// A generation beyond the last is none.
	wantDeeds(t, start(func(k *rack.Rack) { sign(t, k, 0, of(g, 1<<40)) }), do, api.ErrArrayFailed, nil)
}

func TestA2MountReplays(t *testing.T) {
	k, a := format(t, g)
	commit(t, a, 50, 3, 4)
	// Shards of the record's stripes that are lost come back from the record.
	for slot := range 3 {
		k.Rot(slot, geo.Sector(g, 1), 9, 9)
		k.Rot(slot, geo.Sector(g, 2), 9, 9)
	}
	if s, e := a.Read(3); s != "" || e != api.ErrArrayFailed {
		t.Error(e)
	}
	a = mount(t, k)
	wantBlocks(t, a, 50, 3, 4)
	if a.Seq() != 1 || a.Error() != api.OK {
		t.Error(a.Seq(), a.Error())
	}
	// A record that only one slot has is brought to all.
	r := api.Record{Seq: 2, Stripes: []api.Stripe{{N: 0, Data: []string{block(1), block(2)}}}}
	if _, e := journal.Put(k, id, g, []int{2}, r); e != api.OK {
		t.Fatal(e)
	}
	a = mount(t, k)
	wantBlock(t, a, 0, block(1))
	wantBlock(t, a, 1, block(2))
	for slot := range 3 {
		if got, ok, _ := journal.Last(k, id, g, []int{slot}); !ok || got.Seq != 2 {
			t.Error("slot", slot, got.Seq)
		}
	}
	if a.Seq() != 2 {
		t.Error(a.Seq())
	}
}

func TestA3LabelIsNewMemory(t *testing.T) {
	_, a := format(t, g)
	l := a.Label()
	l.States[0], l.Born[0], l.Cursors[0] = 0, 9, 3
	_ = append(l.States, 5)
	wantLabel(t, a, of(g, 1))
}

func TestReadAndStripe(t *testing.T) {
	k, a := format(t, g)
	commit(t, a, 50, 2, 3, 15)
	for _, n := range []int{-1, 16, math.MaxInt, math.MinInt} {
		if s, e := a.Read(n); s != "" || e != api.ErrGeoRange {
			t.Error("Read", n, e)
		}
		if data, bad, e := a.Stripe(n); len(data) != 0 || len(bad) != 0 || e != api.ErrGeoRange {
			t.Error("Stripe", n, e)
		}
	}
	if _, _, e := a.Stripe(8); e != api.ErrGeoRange {
		t.Error("Stripe 8", e)
	}
	wantStripe := func(n int, want []string, bad []int, e api.Errno) {
		t.Helper()
		data, got, f := a.Stripe(n)
		if !slices.Equal(data, want) || !slices.Equal(got, bad) || f != e {
			t.Error("Stripe", n, got, f)
		}
	}
	good := []string{block(52), block(53)}
	wantStripe(1, good, nil, api.OK)
	k.Rot(2, geo.Sector(g, 1), 0, 1)
	wantStripe(1, good, []int{2}, api.OK)
	wantStripe(7, []string{zero, block(65)}, nil, api.OK)
	k.Fail(0)
	wantStripe(1, nil, []int{0, 2}, api.ErrArrayFailed)
	wantStripe(7, []string{zero, block(65)}, []int{0}, api.OK)
	if s, e := a.Read(2); s != "" || e != api.ErrArrayFailed || a.Error() != api.OK {
		t.Error("a stripe that is lost", e, a.Error())
	}
	wantBlock(t, a, 15, block(65))
	wantLabel(t, a, of(g, 1))
	k.Arm(1)
	k.Flush(1)
	if data, bad, e := a.Stripe(7); len(data) != 0 || len(bad) != 0 || e != api.ErrRackPower || a.Error() != api.ErrRackPower {
		t.Error("without power", e, a.Error())
	}
	k.Restart(nil)
	if s, e := a.Read(15); s != "" || e != api.ErrRackPower {
		t.Error("the error stays", e)
	}
	if s, e := a.Read(99); s != "" || e != api.ErrRackPower {
		t.Error("the error first", e)
	}
	if data, bad, e := a.Stripe(99); len(data) != 0 || len(bad) != 0 || e != api.ErrRackPower {
		t.Error("the error first", e)
	}
	if a.Patch(99, nil) != api.ErrRackPower || a.Set(99, 0, 0) != api.ErrRackPower || a.Commit(nil) != api.ErrRackPower {
		t.Error("the error first")
	}
}

// TestOnlySlotsThatAreInAreRead has a slot that is out, whose shards are good and old.
func TestOnlySlotsThatAreInAreRead(t *testing.T) {
	k, a := format(t, g)
	commit(t, a, 50, 3)
	want(t, a.Set(0, api.SlotOut, 0), api.OK)
	commit(t, a, 80, 3)
	wantBlocks(t, a, 80, 3)
	k.Rot(1, geo.Sector(g, 1), 5, 5)
	data, bad, e := a.Stripe(1)
	if len(data) != 0 || !slices.Equal(bad, []int{1}) || e != api.ErrArrayFailed {
		t.Error(bad, e)
	}
	// One that is building is written to, but not read.
	k.Rot(1, geo.Sector(g, 1), 5, 5)
	want(t, a.Set(0, api.SlotBuilding, 0), api.OK)
	commit(t, a, 90, 3)
	if s, ok := k.Read(0, geo.Sector(g, 1)); ok != api.OK {
		t.Error(s)
	}
	k.Rot(1, geo.Sector(g, 1), 5, 5)
	if _, bad, e := a.Stripe(1); !slices.Equal(bad, []int{1}) || e != api.ErrArrayFailed {
		t.Error(bad, e)
	}
	if data, bad, e := stripe.Read(k, id, g, []int{0, 2}, 1); e != api.OK || len(bad) != 0 || data[1] != block(93) {
		t.Error(bad, e)
	}
}

func TestA4Commit(t *testing.T) {
	k, a := format(t, g)
	commit(t, a, 100, 5)
	commit(t, a, 200, 15, 0, 4, 5, 1)
	if a.Seq() != 2 {
		t.Error(a.Seq())
	}
	wantBlocks(t, a, 200, 0, 1, 4, 5, 15)
	for n := range 16 {
		if !slices.Contains([]int{0, 1, 4, 5, 15}, n) {
			wantBlock(t, a, n, zero)
		}
	}
	all := []int{15, 14, 13, 12, 11, 10, 9, 8, 7, 6, 5, 4, 3, 2, 1, 0}
	commit(t, a, 300, all...)
	wantBlocks(t, a, 300, all...)
	wantLabel(t, a, of(g, 1))
	for n := range 8 {
		if data, bad, e := stripe.Read(k, id, g, []int{0, 1, 2}, n); e != api.OK || len(bad) != 0 || data[0] != block(300+2*n) {
			t.Error(n, bad, e)
		}
	}
	a = mount(t, k)
	wantBlocks(t, a, 300, all...)
	if a.Seq() != 3 {
		t.Error(a.Seq())
	}
}

func TestA4Sixteen(t *testing.T) {
	g := api.Geometry{K: 1, M: 1, Blocks: 40}
	k, a := format(t, g)
	l := make([]api.Write, 17)
	for i := range l {
		l[i] = api.Write{Block: 2 * i, Data: block(i)}
	}
	acts := k.Acts()
	want(t, a.Commit(l), api.ErrArrayForm)
	if k.Acts() != acts {
		t.Error("actions")
	}
	want(t, a.Commit(l[1:]), api.OK)
	for i := range 17 {
		wantBlock(t, a, 2*i, []string{zero, block(i)}[min(i, 1)])
	}
}

func TestA4Errors(t *testing.T) {
	k, a := format(t, g)
	acts := k.Acts()
	ok := api.Write{Block: 1, Data: block(1)}
	for i, l := range [][]api.Write{nil, {}, {{Block: -1, Data: block(1)}}, {{Block: 16, Data: block(1)}}, {{Block: math.MaxInt, Data: block(1)}}, {ok, {Block: 1, Data: block(2)}}, {ok, ok}, {ok, {Block: 2, Data: ""}}, {ok, {Block: 2, Data: block(1)[1:]}}, {ok, {Block: 2, Data: block(1) + "x"}}, slices.Repeat([]api.Write{ok}, 17), {{Block: 2}, ok}} {
		if e := a.Commit(l); e != api.ErrArrayForm {
			t.Error(i, e)
		}
	}
	// A stripe that can't be read: nothing is written.
	commit(t, a, 50, 3)
	acts = k.Acts()
	k.Rot(0, geo.Sector(g, 2), 1, 1)
	k.Rot(1, geo.Sector(g, 2), 1, 1)
	want(t, a.Commit([]api.Write{{Block: 3, Data: block(7)}, {Block: 4, Data: block(8)}}), api.ErrArrayFailed)
	want(t, a.Error(), api.OK)
	if k.Acts() != acts || a.Seq() != 1 {
		t.Error("actions", k.Acts()-acts)
	}
	wantBlocks(t, a, 50, 3)
	want(t, a.Commit([]api.Write{{Block: 4}}), api.ErrArrayForm)
	want(t, a.Commit([]api.Write{{Block: 3, Data: block(7)}}), api.OK)
	wantBlock(t, a, 3, block(7))
}

func TestA4TheLastRecord(t *testing.T) {
	k, _ := format(t, g)
	r := api.Record{Seq: 1<<40 - 1, Stripes: []api.Stripe{{N: 0, Data: []string{block(1), block(2)}}}}
	if _, e := journal.Put(k, id, g, []int{0, 1, 2}, r); e != api.OK {
		t.Fatal(e)
	}
	a := mount(t, k)
	if a.Seq() != 1<<40-1 {
		t.Fatal(a.Seq())
	}
	commit(t, a, 50, 3)
	if a.Seq() != 1<<40 {
		t.Fatal(a.Seq())
	}
	acts := k.Acts()
	want(t, a.Commit([]api.Write{{Block: 3, Data: block(9)}}), api.ErrArrayFailed)
	want(t, a.Commit([]api.Write{{Block: 33, Data: block(9)}}), api.ErrArrayForm)
	want(t, a.Error(), api.OK)
	if k.Acts() != acts {
		t.Error("actions")
	}
	wantBlocks(t, a, 50, 3)
	// A stripe that can't be read comes first.
	k.Rot(0, geo.Sector(g, 2), 1, 1)
	k.Rot(1, geo.Sector(g, 2), 1, 1)
	want(t, a.Commit([]api.Write{{Block: 4, Data: block(9)}}), api.ErrArrayFailed)
	wantBlocks(t, mount(t, k), 50, 3)
}

func TestA4CommitDeeds(t *testing.T) {
	r := api.Record{Seq: 2, Stripes: []api.Stripe{{N: 1, Data: []string{block(1), block(53)}}, {N: 2, Data: []string{block(54), block(2)}}}}
	start := func(spoil func(k *rack.Rack)) func() (*rack.Rack, *array.Array) {
		return func() (*rack.Rack, *array.Array) {
			k, a := format(t, g)
			commit(t, a, 50, 3, 4)
			spoil(k)
			return k, a
		}
	}
	do := func(k *rack.Rack, a *array.Array) api.Errno {
		return a.Commit([]api.Write{{Block: 5, Data: block(2)}, {Block: 2, Data: block(1)}})
	}
	applied := func(slots ...int) []deed {
		var l []deed
		for _, s := range r.Stripes {
			l = append(l, shards(g, s, slots...)...)
		}
		return append(l, flushes(slots...)...)
	}
	wantDeeds(t, start(func(k *rack.Rack) {}), do, api.OK, append(journals(g, r, nil, 0, 1, 2), applied(0, 1, 2)...))
	// One member has failed: the record is there, then the label is announced, then the stripes are written.
	list := journals(g, r, []int{1}, 0, 1, 2)
	list = append(list, announces(t, of(g, 2, out(1)), 0, 2)...)
	wantDeeds(t, start(func(k *rack.Rack) { k.Fail(1) }), do, api.OK, append(list, applied(0, 2)...))
}

func TestA4TooMany(t *testing.T) {
	// With two of four members, the commit can still read, and the array fails when the third is lost.
	g := api.Geometry{K: 2, M: 2, Blocks: 16}
	k, a := format(t, g)
	k.Fail(0)
	k.Fail(3)
	commit(t, a, 50, 3)
	wantLabel(t, a, of(g, 2, out(0, 3)))
	k.Fail(1)
	want(t, a.Commit([]api.Write{{Block: 3, Data: block(1)}}), api.ErrArrayFailed)
	want(t, a.Error(), api.OK)
	wantLabel(t, a, of(g, 2, out(0, 3)))
	want(t, a.Patch(1, []int{2}), api.ErrArrayFailed)
	want(t, a.Set(2, api.SlotOut, 0), api.ErrArrayFailed)
	want(t, a.Error(), api.ErrArrayFailed)
	want(t, a.Set(2, api.SlotOut, 0), api.ErrArrayFailed)
	if s, e := a.Read(3); s != "" || e != api.ErrArrayFailed {
		t.Error(e)
	}
}

func TestA5PatchErrors(t *testing.T) {
	k, a := format(t, g)
	want(t, a.Set(1, api.SlotOut, 0), api.OK)
	acts := k.Acts()
	for i, x := range []struct {
		n     int
		slots []int
		e     api.Errno
	}{
		{-1, nil, api.ErrGeoRange}, {8, nil, api.ErrGeoRange}, {math.MaxInt, []int{9}, api.ErrGeoRange}, {0, []int{1}, api.ErrArg}, {0, []int{0, 0}, api.ErrArg}, {0, []int{3}, api.ErrArg}, {0, []int{-1}, api.ErrArg}, {0, []int{0, 2, 0}, api.ErrArg}, {0, nil, api.OK}, {7, []int{}, api.OK},
	} {
		if e := a.Patch(x.n, x.slots); e != x.e {
			t.Error(i, e)
		}
	}
	k.Rot(0, geo.Sector(g, 4), 1, 1)
	want(t, a.Patch(4, []int{0}), api.ErrArrayFailed)
	want(t, a.Patch(4, []int{1}), api.ErrArg)
	want(t, a.Error(), api.OK)
	if k.Acts() != acts {
		t.Error("actions", k.Acts()-acts)
	}
}

func TestA5PatchDeeds(t *testing.T) {
	s := api.Stripe{N: 1, Data: []string{block(52), block(53)}}
	start := func(spoil func(k *rack.Rack, a *array.Array)) func() (*rack.Rack, *array.Array) {
		return func() (*rack.Rack, *array.Array) {
			k, a := format(t, g)
			commit(t, a, 50, 2, 3)
			spoil(k, a)
			return k, a
		}
	}
	do := func(slots ...int) func(k *rack.Rack, a *array.Array) api.Errno {
		return func(k *rack.Rack, a *array.Array) api.Errno { return a.Patch(1, slots) }
	}
	rot := func(k *rack.Rack, a *array.Array) { k.Rot(1, geo.Sector(g, 1), 3, 3) }
	wantDeeds(t, start(rot), do(1), api.OK, append(shards(g, s, 1), flushes(1)...))
	wantDeeds(t, start(rot), do(2, 1), api.OK, append(shards(g, s, 2, 1), flushes(2, 1)...))
	fail := func(k *rack.Rack, a *array.Array) { k.Fail(1) }
	list := append(shards(g, s, 1, 0), flushes(1, 0)...)
	wantDeeds(t, start(fail), do(1, 0), api.OK, append(list, announces(t, of(g, 2, out(1)), 0, 2)...))
	build := func(k *rack.Rack, a *array.Array) {
		a.Set(1, api.SlotOut, 0)
		k.Blank(1)
		a.Set(1, api.SlotBuilding, 0)
	}
	wantDeeds(t, start(build), do(1), api.OK, append(shards(g, s, 1), flushes(1)...))
}

func TestA6SetErrors(t *testing.T) {
	type set struct{ slot, state, cursor int }
	start := func() (*rack.Rack, *array.Array) {
		g := api.Geometry{K: 1, M: 3, Blocks: 8}
		k, a := format(t, g)
		want(t, a.Set(1, api.SlotOut, 0), api.OK)
		want(t, a.Set(2, api.SlotOut, 0), api.OK)
		want(t, a.Set(2, api.SlotBuilding, 3), api.OK)
		want(t, a.Set(3, api.SlotOut, 0), api.OK)
		k.Fail(3)
		return k, a
	}
	// The slots are in, out, building, and out with a member that has failed.
	for i, x := range []struct {
		s set
		e api.Errno
	}{
		{set{-1, 0, 0}, api.ErrArg}, {set{4, 0, 0}, api.ErrArg}, {set{math.MaxInt, 0, 0}, api.ErrArg}, {set{1, -1, 0}, api.ErrArg}, {set{1, 3, 0}, api.ErrArg}, {set{2, math.MinInt, 0}, api.ErrArg},
		{set{1, 0, 1}, api.ErrArg}, {set{2, 1, 1}, api.ErrArg}, {set{2, 2, -1}, api.ErrArg}, {set{2, 2, 9}, api.ErrArg}, {set{2, 2, math.MaxInt}, api.ErrArg}, {set{2, 0, -1}, api.ErrArg},
		{set{0, 1, 0}, api.ErrArg}, {set{1, 1, 0}, api.ErrArg}, {set{3, 1, 0}, api.ErrArg}, {set{0, 2, 0}, api.ErrArg}, {set{3, 2, 0}, api.ErrArg},
		{set{2, 2, 8}, api.OK}, {set{2, 2, 0}, api.OK}, {set{1, 2, 0}, api.OK}, {set{1, 2, 8}, api.OK}, {set{2, 1, 0}, api.OK}, {set{1, 0, 0}, api.OK}, {set{2, 0, 0}, api.OK}, {set{3, 0, 0}, api.OK},
	} {
		k, a := start()
		was, acts := a.Label(), k.Acts()
		e := a.Set(x.s.slot, x.s.state, x.s.cursor)
		if e != x.e || a.Error() != api.OK {
			t.Error(i, e, a.Error())
		}
		if e != api.OK {
			if !label.Same(a.Label(), was) || k.Acts() != acts {
				t.Error("something changed", i)
			}
			continue
		}
		if x.s.slot == 1 && x.s.state == 2 {
			was.Born[1] = was.Gen + 1
		}
		was.Gen++
		was.States[x.s.slot], was.Cursors[x.s.slot] = x.s.state, x.s.cursor
		if !label.Same(a.Label(), was) {
			t.Error(i, a.Label(), was)
		}
	}
}

func TestA6SetDeeds(t *testing.T) {
	start := func(prepare func(k *rack.Rack, a *array.Array)) func() (*rack.Rack, *array.Array) {
		return func() (*rack.Rack, *array.Array) {
			k, a := format(t, g)
			commit(t, a, 50, 2, 3)
			prepare(k, a)
			return k, a
		}
	}
	do := func(state, cursor int) func(k *rack.Rack, a *array.Array) api.Errno {
		return func(k *rack.Rack, a *array.Array) api.Errno { return a.Set(1, state, cursor) }
	}
	unsign := []deed{{1, 0, ""}, {1, 1, ""}, {slot: 1, at: -1}}
	clear := []deed{{1, geo.Head(g, 0), ""}, {1, geo.Head(g, 1), ""}, {slot: 1, at: -1}}
	none := func(k *rack.Rack, a *array.Array) {}
	wantDeeds(t, start(none), do(api.SlotOut, 0), api.OK, slices.Concat(unsign, announces(t, of(g, 2, out(1)), 0, 2)))
	fail := func(k *rack.Rack, a *array.Array) { k.Fail(1) }
	wantDeeds(t, start(fail), do(api.SlotOut, 0), api.OK, slices.Concat(unsign[:1], announces(t, of(g, 2, out(1)), 0, 2)))
	isOut := func(k *rack.Rack, a *array.Array) { a.Set(1, api.SlotOut, 0) }
	building := func(gen, cursor int) api.Label {
		return of(g, gen, func(l *api.Label) { l.States[1], l.Born[1], l.Cursors[1] = api.SlotBuilding, 3, cursor })
	}
	wantDeeds(t, start(isOut), do(api.SlotOut, 0), api.OK, slices.Concat(unsign, announces(t, of(g, 3, out(1)), 0, 2)))
	wantDeeds(t, start(isOut), do(api.SlotBuilding, 0), api.OK, slices.Concat(clear, announces(t, building(3, 0), 0, 1, 2)))
	isBuilding := func(k *rack.Rack, a *array.Array) {
		isOut(k, a)
		a.Set(1, api.SlotBuilding, 2)
	}
	wantDeeds(t, start(isBuilding), do(api.SlotBuilding, 5), api.OK, announces(t, building(4, 5), 0, 1, 2))
	wantDeeds(t, start(isBuilding), do(api.SlotIn, 0), api.OK, announces(t, of(g, 4, func(l *api.Label) { l.Born[1] = 3 }), 0, 1, 2))
	// While it announces, a member is lost: the label is announced once more.
	dead := func(k *rack.Rack, a *array.Array) {
		isBuilding(k, a)
		k.Fail(1)
	}
	list := announces(t, building(4, 5), 0, 1, 2)
	list = slices.Concat(list[:4], list[6:], announces(t, of(g, 5, out(1), func(l *api.Label) { l.Born[1] = 3 }), 0, 2))
	wantDeeds(t, start(dead), do(api.SlotBuilding, 5), api.OK, list)
}

func TestAnnounceTheLastGeneration(t *testing.T) {
	k, _ := format(t, g)
	for slot := range 3 {
		sign(t, k, slot, of(g, 1<<40-2))
	}
	a := mount(t, k)
	wantLabel(t, a, of(g, 1<<40-1))
	want(t, a.Set(1, api.SlotOut, 0), api.OK)
	wantLabel(t, a, of(g, 1<<40, out(1)))
	commit(t, a, 50, 3)
	acts := k.Acts()
	want(t, a.Set(1, api.SlotBuilding, 0), api.ErrArrayFailed)
	if k.Acts() != acts+3 {
		t.Error("actions", k.Acts()-acts)
	}
	want(t, a.Error(), api.ErrArrayFailed)
	if l := a.Label(); l.Gen != 1<<40 {
		t.Error(l)
	}
	if _, e := array.Mount(k, id); e != api.ErrArrayFailed {
		t.Error(e)
	}
}

func TestSetOutLeavesNoLabel(t *testing.T) {
	k, a := format(t, g)
	want(t, a.Set(1, api.SlotOut, 0), api.OK)
	for at := range 2 {
		if s, ok := sector.Open(id, 1, at, k.Image(1)[at]); !ok || s != zero {
			t.Error(at, ok)
		}
	}
	for at := range 2 {
		if s, ok := sector.Open(id, 2, at, k.Image(2)[at]); !ok || s == zero {
			t.Error(at, ok)
		}
	}
}

func TestCommitArgumentsAreNotModified(t *testing.T) {
	k, a := format(t, g)
	l := []api.Write{{Block: 5, Data: block(1)}, {Block: 2, Data: block(2)}, {Block: 9, Data: block(3)}}
	was := slices.Clone(l)
	want(t, a.Commit(l[:2]), api.OK)
	if !slices.Equal(l, was) {
		t.Error("changed")
	}
	data, _, _ := a.Stripe(1)
	data[0] = "x"
	wantBlock(t, a, 2, block(2))
	list := []int{2, 0, 1}
	want(t, a.Patch(1, list[:2]), api.OK)
	if !slices.Equal(list, []int{2, 0, 1}) {
		t.Error("changed")
	}
	k.Fail(2)
	want(t, a.Patch(1, list), api.OK)
	if !slices.Equal(list, []int{2, 0, 1}) {
		t.Error("changed")
	}
}

// TestInterruptedCalls shows what an array tells of itself after the power went off in a call: what was done before is there, and nothing else.
func TestInterruptedCalls(t *testing.T) {
	// A commit of one stripe: 15 actions of the record, and 6 of the stripe.
	for n := 1; n <= 21; n++ {
		k, a := format(t, g)
		commit(t, a, 50, 3)
		k.Arm(n)
		want(t, a.Commit([]api.Write{{Block: 5, Data: block(1)}}), api.ErrRackPower)
		seq := 1
		if n > 15 {
			seq = 2
		}
		if a.Seq() != seq {
			t.Error("Seq", n, a.Seq())
		}
		wantLabel(t, a, of(g, 1))
	}
	// A slot that gets out, and one that is built: three actions before the label changes.
	for n := 1; n <= 12; n++ {
		k, a := format(t, g)
		if n <= 9 {
			k.Arm(n)
			want(t, a.Set(1, api.SlotOut, 0), api.ErrRackPower)
			if n <= 3 {
				wantLabel(t, a, of(g, 1))
			} else {
				wantLabel(t, a, of(g, 2, out(1)))
			}
		}
		k, a = format(t, g)
		want(t, a.Set(1, api.SlotOut, 0), api.OK)
		k.Arm(n)
		want(t, a.Set(1, api.SlotBuilding, 4), api.ErrRackPower)
		if n <= 3 {
			wantLabel(t, a, of(g, 2, out(1)))
		} else {
			wantLabel(t, a, of(g, 3, func(l *api.Label) { l.States[1], l.Born[1], l.Cursors[1] = api.SlotBuilding, 3, 4 }))
		}
	}
}
