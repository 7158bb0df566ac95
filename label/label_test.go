package label_test

import (
	"math"
	"slices"
	"strings"
	"testing"

	"stave/api"
	"stave/label"
)

// small is the label of the chapter's example.
func small() api.Label {
	return api.Label{ID: 1, Slot: 0, Gen: 1, Geo: api.Geometry{K: 1, M: 1, Blocks: 8}, States: []int{1, 1}, Born: []int{1, 1}, Cursors: []int{0, 0}}
}

// large has the greatest numbers.
func large() api.Label {
	return api.Label{ID: 65535, Slot: 6, Gen: 1 << 40, Geo: api.Geometry{K: 4, M: 3, Blocks: 200}, States: []int{0, 1, 2, 0, 1, 2, 2}, Born: []int{0, 1, 1 << 40, 7, 8, 300, 65536}, Cursors: []int{0, 50, 49, 1, 2, 3, 4}}
}

// edges are changes of small, and whether the label is valid then.
func edges() []struct {
	change func(l *api.Label)
	right  bool
} {
	type edge = struct {
		change func(l *api.Label)
		right  bool
	}
	return []edge{
		{func(l *api.Label) {}, true},
		{func(l *api.Label) { l.ID = 0 }, false}, {func(l *api.Label) { l.ID = 65535 }, true}, {func(l *api.Label) { l.ID = 65536 }, false}, {func(l *api.Label) { l.ID = -1 }, false},
		{func(l *api.Label) { l.Slot = 1 }, true}, {func(l *api.Label) { l.Slot = 2 }, false}, {func(l *api.Label) { l.Slot = -1 }, false},
		{func(l *api.Label) { l.Geo.K = 0 }, false}, {func(l *api.Label) { l.Geo.K = 2 }, false}, {func(l *api.Label) { l.Geo.Blocks = 7 }, false}, {func(l *api.Label) { l.Geo.Blocks = 201 }, false}, {func(l *api.Label) { l.Geo.Blocks = 200 }, true},
		{func(l *api.Label) { l.Gen = 0 }, false}, {func(l *api.Label) { l.Gen, l.Born = 0, []int{0, 0} }, false}, {func(l *api.Label) { l.Gen = 1 << 40 }, true}, {func(l *api.Label) { l.Gen = 1<<40 + 1 }, false}, {func(l *api.Label) { l.Gen = math.MinInt }, false},
		{func(l *api.Label) { l.States = nil }, false}, {func(l *api.Label) { l.States = []int{1, 1, 1} }, false}, {func(l *api.Label) { l.States[1] = 2 }, true}, {func(l *api.Label) { l.States[1] = 3 }, false}, {func(l *api.Label) { l.States[0] = -1 }, false}, {func(l *api.Label) { l.States[0] = 0 }, true},
		{func(l *api.Label) { l.Born = []int{1} }, false}, {func(l *api.Label) { l.Born = []int{1, 1, 1} }, false}, {func(l *api.Label) { l.Born[1] = 2 }, false}, {func(l *api.Label) { l.Born[0] = 0 }, true}, {func(l *api.Label) { l.Born[0] = -1 }, false}, {func(l *api.Label) { l.Gen, l.Born[1] = 9, 9 }, true},
		{func(l *api.Label) { l.Cursors = nil }, false}, {func(l *api.Label) { l.Cursors = []int{0, 0, 0} }, false}, {func(l *api.Label) { l.Cursors[1] = 8 }, true}, {func(l *api.Label) { l.Cursors[1] = 9 }, false}, {func(l *api.Label) { l.Cursors[0] = -1 }, false},
		{func(l *api.Label) { *l = api.Label{} }, false},
	}
}

func TestL1Right(t *testing.T) {
	for i, x := range edges() {
		l := small()
		x.change(&l)
		if label.Right(l) != x.right {
			t.Error(i, l)
		}
		s, e := label.Put(l)
		if x.right && (e != api.OK || s == "") || !x.right && (e != api.ErrLabelForm || s != "") {
			t.Error("Put", i, l, e)
		}
	}
	if !label.Right(large()) {
		t.Error("large")
	}
}

func TestL1Same(t *testing.T) {
	if !label.Same(small(), small()) || !label.Same(large(), large()) || !label.Same(api.Label{}, api.Label{States: []int{}}) || label.Same(small(), large()) {
		t.Error("Same")
	}
	for i, change := range []func(l *api.Label){
		func(l *api.Label) { l.ID++ }, func(l *api.Label) { l.Slot++ }, func(l *api.Label) { l.Gen++ }, func(l *api.Label) { l.Geo.K++ }, func(l *api.Label) { l.Geo.M++ }, func(l *api.Label) { l.Geo.Blocks++ },
		func(l *api.Label) { l.States[1]++ }, func(l *api.Label) { l.Born[1]++ }, func(l *api.Label) { l.Cursors[1]++ },
		func(l *api.Label) { l.States = l.States[:1] }, func(l *api.Label) { l.Born = nil }, func(l *api.Label) { l.Cursors = append(l.Cursors, 0) },
	} {
		l := small()
		change(&l)
		if label.Same(l, small()) || label.Same(small(), l) {
			t.Error(i)
		}
	}
}

func TestL2Put(t *testing.T) {
	s, e := label.Put(small())
	one := "\x01\x00\x00\x00\x00\x00\x01\x00"
	if want := "STV1\x00\x01\x00\x01\x01\x08\x00\x00\x00\x00\x00\x01" + one + one; e != api.OK || s != want || len(s) != 32 {
		t.Errorf("%q %d", s, e)
	}
	s, e = label.Put(large())
	want := "STV1\xff\xff\x06\x04\x03\xc8\x01\x00\x00\x00\x00\x00" +
		"\x00\x00\x00\x00\x00\x00\x00\x00" + "\x01\x00\x00\x00\x00\x00\x01\x32" + "\x02\x01\x00\x00\x00\x00\x00\x31" + "\x00\x00\x00\x00\x00\x00\x07\x01" +
		"\x01\x00\x00\x00\x00\x00\x08\x02" + "\x02\x00\x00\x00\x00\x01\x2c\x03" + "\x02\x00\x00\x00\x01\x00\x00\x04"
	if e != api.OK || s != want || len(s) != 72 {
		t.Errorf("%q %d", s, e)
	}
}

func TestL2Get(t *testing.T) {
	for _, l := range []api.Label{small(), large()} {
		s, _ := label.Put(l)
		for _, padding := range []int{0, 1, 120 - len(s), 5000} {
			got, e := label.Get(s + strings.Repeat("\x00", padding))
			if e != api.OK || !label.Same(got, l) {
				t.Error(got, e)
			}
		}
		bad := []string{s + "x", s + "\x00\x01", "STV2" + s[4:], "\x00" + s, "", "S", "STV1", strings.Repeat("\x00", 120), strings.Repeat("\xff", 120)}
		for i := range len(s) {
			bad = append(bad, s[:i])
		}
		for _, x := range bad {
			if got, e := label.Get(x); e != api.ErrLabelForm || !label.Same(got, api.Label{}) {
				t.Errorf("%q: %v %d", x, got, e)
			}
		}
	}
	// Whatever is read is what encodes to it.
	s, _ := label.Put(small())
	read := 0
	for at := range len(s) {
		for b := range 256 {
			x := s[:at] + string([]byte{byte(b)}) + s[at+1:]
			l, e := label.Get(x)
			if e != api.OK {
				continue
			}
			read++
			if back, e := label.Put(l); e != api.OK || back != x {
				t.Fatalf("%q %v", x, l)
			}
		}
	}
	if read < 600 {
		t.Error("too few are read", read)
	}
}

func found(l ...api.Label) []api.Found {
	var list []api.Found
	for _, x := range l {
		list = append(list, api.Found{Has: true, Label: x})
	}
	return list
}

// with is small for a slot and a generation.
func with(slot, gen int, change ...func(l *api.Label)) api.Label {
	l := small()
	l.Slot, l.Gen = slot, gen
	for _, c := range change {
		c(&l)
	}
	return l
}

func TestL3Choose(t *testing.T) {
	none := api.Found{}
	hidden := api.Found{Label: with(0, 9)}
	for i, x := range []struct {
		id     int
		found  []api.Found
		best   int
		usable []bool
	}{
		{1, found(small(), with(1, 2)), 1, []bool{true, true}},
		{2, found(small(), with(1, 2)), -1, nil},
		{1, found(with(0, 2), with(1, 1)), 0, []bool{true, true}},
		{1, found(with(0, 2), with(1, 2, func(l *api.Label) { l.States[0] = 0 })), 0, []bool{true, true}},
		{1, nil, -1, nil}, {1, []api.Found{none, none}, -1, nil}, {1, []api.Found{hidden, none}, -1, nil},
		{1, append([]api.Found{none}, found(with(1, 2))...), 1, []bool{false, true}},
		{1, append([]api.Found{hidden}, found(with(1, 2))...), 1, []bool{false, true}},
		{1, found(small()), -1, nil},                           // too few slots were looked at
		{1, append(found(small(), with(1, 2)), none), -1, nil}, // or too many
		{1, found(with(1, 9), with(0, 9)), -1, nil},            // both in the wrong slot
		{1, found(with(1, 9), with(1, 2)), 1, []bool{false, true}},
		{1, found(with(0, 1), with(1, 9, func(l *api.Label) { l.ID = 2 })), 0, []bool{true, false}},
		{1, found(with(0, 1), with(1, 9, func(l *api.Label) { l.States[0] = 3 })), 0, []bool{true, false}},
		{1, found(with(0, 1), with(1, 9, func(l *api.Label) { l.Cursors = nil })), 0, []bool{true, false}},
		{1, found(with(0, 1), with(1, 1<<40+1)), 0, []bool{true, false}},
		{1, found(with(0, 1), with(1, 9, func(l *api.Label) { l.Geo.Blocks = 9 })), 1, []bool{false, true}},
		{1, found(with(0, 1), with(1, 9, func(l *api.Label) { l.Born = []int{2, 3} })), 1, []bool{false, true}},
		{1, found(with(0, 1), with(1, 9, func(l *api.Label) { l.Born = []int{1, 3} })), 1, []bool{true, true}},
		{1, found(with(0, 9, func(l *api.Label) { l.Born = []int{1, 3} }), with(1, 5, func(l *api.Label) { l.Born = []int{2, 3} })), 0, []bool{true, true}},
		{1, found(with(0, 9), with(1, 5, func(l *api.Label) { l.Born = []int{1, 3} })), 0, []bool{true, false}},
		{1, found(with(0, 9, func(l *api.Label) { l.States[1] = 0 }), with(1, 5)), 0, []bool{true, true}},
	} {
		got, usable, e := label.Choose(x.id, x.found)
		if x.best < 0 {
			if e != api.ErrLabelNone || !label.Same(got, api.Label{}) || len(usable) != 0 {
				t.Error(i, got, usable, e)
			}
			continue
		}
		if e != api.OK || !label.Same(got, x.found[x.best].Label) || !slices.Equal(usable, x.usable) {
			t.Error(i, got, usable, e)
		}
	}
}

func TestL3OfSeveralTheLowest(t *testing.T) {
	l := large()
	var all []api.Found
	for slot := range 7 {
		l := large()
		l.Slot, l.Gen, l.Born = slot, 5, []int{1, 1, 1, 1, 1, 1, 1}
		if slot == 2 || slot == 4 {
			l.Gen = 6
		}
		all = append(all, api.Found{Has: true, Label: l})
	}
	got, _, e := label.Choose(l.ID, all)
	if e != api.OK || got.Slot != 2 || got.Gen != 6 {
		t.Error(got, e)
	}
}

func TestL4Next(t *testing.T) {
	l := large()
	l.Gen, l.Born = 5, []int{1, 2, 3, 4, 5, 0, 1}
	was := large()
	was.Gen, was.Born = 5, []int{1, 2, 3, 4, 5, 0, 1}
	next, e := label.Next(l, []bool{true, true, true, false, false, false, true})
	want := large()
	want.Gen, want.Born = 6, []int{1, 2, 3, 4, 5, 0, 1}
	want.States, want.Cursors = []int{0, 1, 2, 0, 0, 0, 2}, []int{0, 50, 49, 0, 0, 0, 4}
	if e != api.OK || !label.Same(next, want) || !label.Same(l, was) || !label.Right(next) {
		t.Error(next, e)
	}
	next.States[0], next.Born[0], next.Cursors[0] = 9, 9, 9
	if !label.Same(l, was) {
		t.Error("Next shares memory with its argument")
	}
	last := small()
	last.Gen = 1<<40 - 1
	if next, e := label.Next(last, []bool{true, true}); e != api.OK || next.Gen != 1<<40 {
		t.Error(next, e)
	}
	last.Gen = 1 << 40
	for i, x := range []struct {
		l      api.Label
		usable []bool
	}{{last, []bool{true, true}}, {small(), []bool{true}}, {small(), nil}, {small(), []bool{true, true, true}}, {api.Label{}, nil}, {with(2, 1), []bool{true, true}}} {
		if got, e := label.Next(x.l, x.usable); e != api.ErrLabelForm || !label.Same(got, api.Label{}) {
			t.Error(i, got, e)
		}
	}
	if got, e := label.Next(small(), []bool{false, false}); e != api.OK || !slices.Equal(got.States, []int{0, 0}) {
		t.Error(got, e)
	}
}

func TestL5WhatDoesNotCountHasNoInfluence(t *testing.T) {
	alone, usable, _ := label.Choose(1, []api.Found{{Has: true, Label: with(0, 3)}, {}})
	for i, x := range []api.Label{with(1, 9, func(l *api.Label) { l.ID = 3 }), with(0, 9), with(1, 0), with(1, 9, func(l *api.Label) { l.Born[0] = 10 }), {}} {
		got, flags, e := label.Choose(1, found(with(0, 3), x))
		if e != api.OK || !label.Same(got, alone) || !slices.Equal(flags, usable) {
			t.Error(i, got, flags, e)
		}
	}
}

func TestResultsAreNew(t *testing.T) {
	all := found(small(), with(1, 2))
	got, usable, _ := label.Choose(1, all)
	got.States[0], got.Born[0], got.Cursors[0], usable[0] = 9, 9, 9, false
	if again, _, e := label.Choose(1, all); e != api.OK || !label.Same(again, with(1, 2)) {
		t.Error("Choose shares memory with its argument")
	}
	s, _ := label.Put(small())
	one, _ := label.Get(s)
	_ = append(one.States, 7)
	if one.Born[0] != 1 || one.Cursors[0] != 0 {
		t.Error("the slices of a label share memory")
	}
}
