package journal_test

import (
	"math"
	"slices"
	"strings"
	"testing"

	"stave/api"
	"stave/geo"
	"stave/journal"
	"stave/rack"
	"stave/record"
	"stave/sector"
)

const id = 258

var g = api.Geometry{K: 2, M: 1, Blocks: 40}

func fresh(t *testing.T) *rack.Rack {
	t.Helper()
	k, e := rack.New(geo.Slots(g), geo.Sectors(g))
	if e != api.OK {
		t.Fatal(e)
	}
	return k
}

// sealHeads lays heads that are of no record.
func sealHeads(t *testing.T, k *rack.Rack) {
	t.Helper()
	for slot := range k.Slots() {
		for _, at := range []int{geo.Head(g, 0), geo.Head(g, 1)} {
			write(t, k, slot, at, "")
		}
	}
}

func write(t *testing.T, k *rack.Rack, slot, at int, payload string) {
	t.Helper()
	s, e := sector.Seal(id, slot, at, payload)
	if e != api.OK || k.Write(slot, at, s) != api.OK || k.Flush(slot) != api.OK {
		t.Fatal("write", slot, at, e)
	}
}

func of(seq int, stripes ...int) api.Record {
	r := api.Record{Seq: seq}
	for _, n := range stripes {
		s := api.Stripe{N: n}
		for i := range g.K {
			s.Data = append(s.Data, strings.Repeat(string([]byte{byte(seq), byte(n), byte(i)}), 40))
		}
		r.Stripes = append(r.Stripes, s)
	}
	return r
}

var all = []int{0, 1, 2}

func put(t *testing.T, k *rack.Rack, list []int, r api.Record) {
	t.Helper()
	if lost, e := journal.Put(k, id, g, list, r); e != api.OK || len(lost) != 0 {
		t.Fatal("Put", lost, e)
	}
}

func wantLast(t *testing.T, k *rack.Rack, list []int, want api.Record) {
	t.Helper()
	got, ok, e := journal.Last(k, id, g, list)
	if e != api.OK || !ok || !record.Same(got, want) {
		t.Fatal("Last", got.Seq, ok, e, "and not", want.Seq)
	}
}

func wantNoLast(t *testing.T, k *rack.Rack, list []int) {
	t.Helper()
	if got, ok, e := journal.Last(k, id, g, list); e != api.OK || ok || !record.Same(got, api.Record{}) {
		t.Fatal("Last", got.Seq, ok, e)
	}
}

// deed is an action: of a sector, or a flush if at is negative.
type deed struct{ slot, at int }

// deeds are the actions of a Put, if no member has failed.
func deeds(list []int, r api.Record) []deed {
	var l []deed
	at := geo.Head(g, r.Seq)
	for _, slot := range list {
		for i := range len(r.Stripes) * g.K {
			l = append(l, deed{slot, at + 1 + i})
		}
	}
	flushes := func() {
		for _, slot := range list {
			l = append(l, deed{slot, -1})
		}
	}
	flushes()
	for _, slot := range list {
		l = append(l, deed{slot, at})
	}
	flushes()
	return l
}

func TestW1Phases(t *testing.T) {
	list := []int{2, 0, 1}
	r := of(1, 4)
	k := fresh(t)
	put(t, k, list, r)
	if k.Acts() != 15 {
		t.Error("actions", k.Acts())
	}
	head, body, _ := record.Lay(g, r)
	payload := func(at int) string { return append([]string{head}, body...)[at-geo.Head(g, 1)] }
	order := deeds(list, r)
	if len(order) != 15 {
		t.Fatal("deeds", len(order))
	}
	for n := 1; n <= len(order); n++ {
		k, want := fresh(t), fresh(t)
		k.Arm(n)
		if lost, e := journal.Put(k, id, g, list, r); e != api.ErrRackPower || len(lost) != 0 {
			t.Fatal(n, lost, e)
		}
		for _, d := range order[:n-1] {
			if d.at < 0 {
				want.Flush(d.slot)
				continue
			}
			s, _ := sector.Seal(id, d.slot, d.at, payload(d.at))
			want.Write(d.slot, d.at, s)
		}
		if k.Acts() != n {
			t.Error("goes on without power", n, k.Acts())
		}
		choices := slices.Repeat([][]int{slices.Repeat([]int{1}, 100)}, 3)
		for slot := range 3 {
			if !slices.Equal(k.Image(slot), want.Image(slot)) || k.Pending(slot) != want.Pending(slot) {
				t.Fatal("another order", n, slot)
			}
		}
		k.Restart(choices)
		want.Restart(choices)
		for slot := range 3 {
			if !slices.Equal(k.Image(slot), want.Image(slot)) {
				t.Fatal("other writes", n, slot)
			}
		}
	}
}

func TestW1Bays(t *testing.T) {
	k := fresh(t)
	put(t, k, all, of(2, 0, 1, 19))
	for slot := range 3 {
		for at, s := range k.Image(slot) {
			_, ok := sector.Open(id, slot, at, s)
			if want := at >= 2 && at <= 2+6; ok != want {
				t.Fatal(slot, at, ok)
			}
		}
	}
	put(t, k, all, of(3, 5))
	wantLast(t, k, all, of(3, 5))
	if _, ok := sector.Open(id, 1, 35, k.Image(1)[35]); !ok {
		t.Error("the other bay")
	}
}

func TestW1Lost(t *testing.T) {
	k := fresh(t)
	k.Fail(1)
	lost, e := journal.Put(k, id, g, []int{1, 2, 0}, of(1, 4))
	if e != api.OK || !slices.Equal(lost, []int{1}) || k.Acts() != 1+4+2+2+2 {
		t.Error(lost, e, k.Acts())
	}
	wantLast(t, k, all, of(1, 4))
	k.Fail(2)
	lost, e = journal.Put(k, id, g, []int{2, 0, 1}, of(2, 4, 5))
	if e != api.OK || !slices.Equal(lost, []int{2, 1}) {
		t.Error(lost, e)
	}
	wantLast(t, k, all, of(2, 4, 5))
	k.Fail(0)
	lost, e = journal.Put(k, id, g, all, of(3, 4, 5))
	if e != api.OK || !slices.Equal(lost, all) {
		t.Error(lost, e)
	}
	k.Arm(1)
	if lost, e := journal.Put(k, id, g, all, of(3, 4)); e != api.ErrRackPower || len(lost) != 0 {
		t.Error(lost, e)
	}
	if lost, e := journal.Put(k, id, g, all, of(3, 4)); e != api.ErrRackPower || len(lost) != 0 {
		t.Error("without power", lost, e)
	}
}

func TestErrArg(t *testing.T) {
	k := fresh(t)
	small, _ := rack.New(3, geo.Sectors(g)-1)
	few, _ := rack.New(2, 256)
	many, _ := rack.New(4, 256)
	for i, x := range []struct {
		k    *rack.Rack
		id   int
		g    api.Geometry
		list []int
	}{
		{nil, id, g, all}, {small, id, g, all}, {few, id, g, nil}, {many, id, g, all}, {k, 0, g, all}, {k, -1, g, all}, {k, 65536, g, all}, {k, id, api.Geometry{}, all}, {k, id, api.Geometry{K: 2, M: 1, Blocks: 7}, all},
		{k, id, g, []int{0, 0}}, {k, id, g, []int{3}}, {k, id, g, []int{-1}}, {k, id, g, []int{0, 1, 2, 0}}, {k, id, g, []int{math.MaxInt}},
	} {
		if lost, e := journal.Put(x.k, x.id, x.g, x.list, of(0)); e != api.ErrArg || len(lost) != 0 {
			t.Error("Put", i, e)
		}
		if r, ok, e := journal.Last(x.k, x.id, x.g, x.list); e != api.ErrArg || ok || !record.Same(r, api.Record{}) {
			t.Error("Last", i, e)
		}
	}
	for i, r := range []api.Record{of(0, 1), of(1), of(1, 2, 1), of(1, 20), {}, of(1<<40+1, 3)} {
		if lost, e := journal.Put(k, id, g, all, r); e != api.ErrRecordForm || len(lost) != 0 {
			t.Error(i, e)
		}
	}
	if k.Acts() != 0 {
		t.Error("an action", k.Acts())
	}
	if lost, e := journal.Put(k, id, g, nil, of(1, 1)); e != api.OK || len(lost) != 0 || k.Acts() != 0 {
		t.Error("no slots", lost, e)
	}
	k.Arm(1)
	k.Flush(0)
	if _, e := journal.Put(k, id, g, all, of(0, 1)); e != api.ErrRecordForm {
		t.Error("the record first", e)
	}
	for _, list := range [][]int{all, nil} {
		if r, ok, e := journal.Last(k, id, g, list); e != api.ErrRackPower || ok || !record.Same(r, api.Record{}) {
			t.Error("without power", e)
		}
	}
}

func TestW2Last(t *testing.T) {
	k := fresh(t)
	wantNoLast(t, k, all)
	wantNoLast(t, k, nil)
	sealHeads(t, k)
	wantNoLast(t, k, all)
	first := of(1, 4)
	put(t, k, all, first)
	wantLast(t, k, all, first)
	wantNoLast(t, k, nil)
	k.Rot(0, geo.Head(g, 1), 5, 1)
	wantLast(t, k, all, first)
	wantNoLast(t, k, []int{0})
	k.Rot(2, geo.Head(g, 1)+2, 5, 1) // its body
	wantLast(t, k, all, first)
	wantNoLast(t, k, []int{0, 2})
	k.Rot(1, geo.Head(g, 1), 5, 1)
	wantNoLast(t, k, all)
}

func TestW2TheGreatest(t *testing.T) {
	k := fresh(t)
	put(t, k, []int{0}, of(5, 1))
	put(t, k, []int{1}, of(9, 2))
	put(t, k, []int{2}, of(8, 3))
	put(t, k, []int{0}, of(4, 6))
	wantLast(t, k, all, of(9, 2))
	wantLast(t, k, []int{2, 0}, of(8, 3))
	wantLast(t, k, []int{0}, of(5, 1))
	// Of two with the same number, the first of the list.
	other := of(9, 7)
	put(t, k, []int{2}, other)
	wantLast(t, k, all, of(9, 2))
	wantLast(t, k, []int{2, 1, 0}, other)
	wantLast(t, k, []int{0, 2, 1}, other)
}

func TestW2WhatIsComplete(t *testing.T) {
	r := of(1, 4)
	head, body, _ := record.Lay(g, r)
	lay := func(at int, head string, body []string) *rack.Rack {
		k := fresh(t)
		sealHeads(t, k)
		for i, s := range append([]string{head}, body...) {
			write(t, k, 1, at+i, s)
		}
		return k
	}
	odd, even := geo.Head(g, 1), geo.Head(g, 0)
	wantLast(t, lay(odd, head, body), all, r)
	wantNoLast(t, lay(even, head, body), all) // not its bay
	wantNoLast(t, lay(odd, head+"x", body), all)
	wantNoLast(t, lay(odd, head, body[:1]), all)
	wantNoLast(t, lay(odd, head, []string{body[1], body[0]}), all)
	k := lay(odd, head, body)
	if !journal.Tells(k, id, g, 1) {
		t.Error("Tells")
	}
	if journal.Tells(lay(odd, head, body[:1]), id, g, 1) {
		t.Error("Tells of a body that is too short")
	}
	if !journal.Tells(lay(even, head, nil), id, g, 1) || !journal.Tells(lay(odd, head+"x", nil), id, g, 1) || !journal.Tells(lay(odd, head, []string{body[1], body[0]}), id, g, 1) {
		t.Error("Tells of what is no record")
	}
}

func TestTells(t *testing.T) {
	k := fresh(t)
	for slot := -1; slot < 4; slot++ {
		if journal.Tells(k, id, g, slot) {
			t.Error("blank", slot)
		}
	}
	write(t, k, 0, geo.Head(g, 0), "")
	if journal.Tells(k, id, g, 0) {
		t.Error("one bay")
	}
	sealHeads(t, k)
	put(t, k, all, of(1, 0, 1))
	put(t, k, all, of(2, 3))
	for slot := -1; slot < 4; slot++ {
		if journal.Tells(k, id, g, slot) != (slot >= 0 && slot < 3) {
			t.Error(slot)
		}
	}
	if journal.Tells(nil, id, g, 0) || journal.Tells(k, 0, g, 0) || journal.Tells(k, id+1, g, 0) || journal.Tells(k, id, api.Geometry{}, 0) || journal.Tells(k, id, g, math.MinInt) {
		t.Error("what does not fit")
	}
	need := map[int]bool{2: true, 3: true, 4: true, 35: true, 36: true, 37: true, 38: true, 39: true}
	for at := range geo.Sectors(g) {
		if !k.Rot(1, at, 100, 64) {
			t.Fatal("Rot", at)
		}
		if journal.Tells(k, id, g, 1) == need[at] {
			t.Error("damaged", at)
		}
		k.Rot(1, at, 100, 64)
	}
	k.Arm(1)
	k.Flush(0)
	if journal.Tells(k, id, g, 0) {
		t.Error("without power")
	}
	k.Restart(nil)
	k.Fail(0)
	if journal.Tells(k, id, g, 0) || !journal.Tells(k, id, g, 1) {
		t.Error("a member that has failed")
	}
}

func TestW3OneSlotIsEnough(t *testing.T) {
	k := fresh(t)
	for seq := 1; seq <= 6; seq++ {
		put(t, k, all, of(seq, seq, seq+1))
		for slot := range 3 {
			wantLast(t, k, []int{slot}, of(seq, seq, seq+1))
		}
	}
	k.Fail(0)
	k.Fail(2)
	wantLast(t, k, all, of(6, 6, 7))
}

// TestW3Crashes lets the power go off at each action of a Put, and the crash keep various parts.
func TestW3Crashes(t *testing.T) {
	was, now := of(6, 1, 2, 3), of(7, 4, 5)
	total := len(deeds(all, now))
	for n := 1; n <= total+1; n++ {
		for seed := range 40 {
			k := fresh(t)
			sealHeads(t, k)
			put(t, k, all, of(5, 7, 8, 9, 10))
			put(t, k, all, was)
			k.Arm(n)
			_, e := journal.Put(k, id, g, all, now)
			if (e == api.OK) != (n > total) {
				t.Fatal(n, e)
			}
			choices := make([][]int, 3)
			for slot := range 3 {
				for i := range 20 {
					choices[slot] = append(choices[slot], (seed*(i+3*slot+1)+seed/3+i)%5)
				}
			}
			k.Restart(choices)
			got, ok, e := journal.Last(k, id, g, all)
			if e != api.OK || !ok || !record.Same(got, now) && (n > total || !record.Same(got, was)) {
				t.Fatal(n, seed, got.Seq, ok, e)
			}
			for slot := range 3 {
				if !journal.Tells(k, id, g, slot) {
					t.Fatal("not readable", n, seed, slot)
				}
			}
		}
	}
}

func TestArgumentsAreNotModified(t *testing.T) {
	k := fresh(t)
	k.Fail(0)
	list := []int{2, 0, 1, 7}[:3]
	r := of(1, 4)
	lost, _ := journal.Put(k, id, g, list, r)
	if !slices.Equal(list[:4], []int{2, 0, 1, 7}) || !record.Same(r, of(1, 4)) {
		t.Error("changed", list[:4])
	}
	lost[0] = 9
	_ = append(lost, 8)
	got, _, _ := journal.Last(k, id, g, list)
	got.Stripes[0].Data[0] = "x"
	wantLast(t, k, list, of(1, 4))
	if !slices.Equal(list[:4], []int{2, 0, 1, 7}) {
		t.Error("shared", list[:4])
	}
}
