package engine_test

import (
	"math"
	"strings"
	"testing"

	"stave/api"
	"stave/array"
	"stave/command"
	"stave/engine"
	"stave/geo"
	"stave/label"
	"stave/rack"
)

const id = 99

var g = api.Geometry{K: 2, M: 1, Blocks: 16}

func fresh(t *testing.T, g api.Geometry) *rack.Rack {
	t.Helper()
	k, e := rack.New(geo.Slots(g), geo.Sectors(g))
	if e != api.OK {
		t.Fatal(e)
	}
	return k
}

func start(t *testing.T, g api.Geometry) (*rack.Rack, *engine.Engine) {
	t.Helper()
	k := fresh(t, g)
	m, e := engine.Start(k, id, g)
	if e != api.OK || m == nil {
		t.Fatal(e)
	}
	return k, m
}

func block(n int) string { return strings.Repeat(string([]byte{byte(n), byte(n >> 8), 'e'}), 40) }

func encode(t *testing.T, c api.Command) string {
	t.Helper()
	s, e := command.Put(c)
	if e != api.OK {
		t.Fatal("Put", c, e)
	}
	return s
}

func wantDo(t *testing.T, m *engine.Engine, c api.Command, want string) {
	t.Helper()
	if got := m.Do(encode(t, c)); got != want {
		t.Fatalf("%v: %q, not %q", c, got, want)
	}
}

const ok = "\x00\x00"

func TestExample(t *testing.T) {
	_, m := start(t, g)
	wantDo(t, m, api.Command{Op: api.OpCreate, Name: "a", Count: 100}, ok)
	wantDo(t, m, api.Command{Op: api.OpStat}, "\x00\x00\x01\x03\x0d")
	wantDo(t, m, api.Command{Op: api.OpList}, "\x00\x00\x01a\x00\x64")
	wantDo(t, m, api.Command{Op: api.OpRead, Name: "b"}, "\x00\xb7")
	if got := m.Do(""); got != "\x00\xc8" {
		t.Errorf("%q", got)
	}
}

func TestN1StartAndBoot(t *testing.T) {
	for i, x := range []struct {
		k  *rack.Rack
		id int
		g  api.Geometry
	}{{nil, id, g}, {fresh(t, g), 0, g}, {fresh(t, g), id, api.Geometry{}}, {fresh(t, g), id, api.Geometry{K: 2, M: 2, Blocks: 16}}} {
		if m, e := engine.Start(x.k, x.id, x.g); m != nil || e != api.ErrArg {
			t.Error(i, e)
		}
	}
	if m, e := engine.Boot(nil, id); m != nil || e != api.ErrArg {
		t.Error(e)
	}
	if m, e := engine.Boot(fresh(t, g), id); m != nil || e != api.ErrArrayNone {
		t.Error(e)
	}
	dead := fresh(t, g)
	dead.Fail(1)
	if m, e := engine.Start(dead, id, g); m != nil || e != api.ErrArrayFailed {
		t.Error(e)
	}
	// The power goes off in Format, and in Make.
	acts := func() int {
		k := fresh(t, g)
		array.Format(k, id, g)
		return k.Acts()
	}()
	for _, n := range []int{1, acts, acts + 1, acts + 5} {
		k := fresh(t, g)
		k.Arm(n)
		if m, e := engine.Start(k, id, g); m != nil || e != api.ErrRackPower || k.Acts() != n {
			t.Error(n, e, k.Acts())
		}
	}
	// An array without a pool.
	bare := fresh(t, g)
	array.Format(bare, id, g)
	if m, e := engine.Boot(bare, id); m != nil || e != api.ErrPoolForm {
		t.Error(e)
	}
	k, m := start(t, g)
	wantDo(t, m, api.Command{Op: api.OpCreate, Name: "a", Count: 100}, ok)
	wantDo(t, m, api.Command{Op: api.OpWrite, Name: "a", At: 3, Data: block(1)}, ok)
	m, e := engine.Boot(k, id)
	if e != api.OK {
		t.Fatal(e)
	}
	wantDo(t, m, api.Command{Op: api.OpRead, Name: "a", At: 3, Count: 1}, ok+block(1))
	if _, e := engine.Boot(k, id+1); e != api.ErrArrayNone {
		t.Error(e)
	}
}

func TestN2Replies(t *testing.T) {
	_, m := start(t, g)
	zero := strings.Repeat("\x00", 120)
	for _, x := range []struct {
		c    api.Command
		want string
	}{
		{api.Command{Op: api.OpList}, ok},
		{api.Command{Op: api.OpCreate, Name: "vol1", Count: 300}, ok}, {api.Command{Op: api.OpCreate, Name: "vol1", Count: 300}, "\x00\xb6"}, {api.Command{Op: api.OpCreate, Name: "x", Count: 4097}, "\x00\xbf"}, {api.Command{Op: api.OpCreate, Name: "X"}, "\x00\xb5"},
		{api.Command{Op: api.OpWrite, Name: "vol1", At: 1, Data: block(1) + block(2)}, ok}, {api.Command{Op: api.OpWrite, Name: "vol1", At: 1, Data: "x"}, "\x00\xbf"},
		{api.Command{Op: api.OpRead, Name: "vol1", At: 0, Count: 3}, ok + zero + block(1) + block(2)}, {api.Command{Op: api.OpRead, Name: "vol1", At: 299, Count: 2}, "\x00\xbf"},
		{api.Command{Op: api.OpSnap, Name: "vol1", Other: "b"}, ok}, {api.Command{Op: api.OpSnap, Name: "vol2", Other: "b"}, "\x00\xb7"},
		{api.Command{Op: api.OpList}, ok + "\x01b\x01\x2c" + "\x04vol1\x01\x2c"}, {api.Command{Op: api.OpStat}, ok + "\x02\x08\x08"},
		{api.Command{Op: api.OpDiscard, Name: "vol1", At: 1, Count: 1}, ok}, {api.Command{Op: api.OpDiscard, Name: "vol1", At: 1, Count: 17}, "\x00\xbf"},
		{api.Command{Op: api.OpRead, Name: "vol1", At: 1, Count: 2}, ok + zero + block(2)}, {api.Command{Op: api.OpRead, Name: "b", At: 1, Count: 2}, ok + block(1) + block(2)},
		{api.Command{Op: api.OpResize, Name: "b", Count: 2}, ok}, {api.Command{Op: api.OpResize, Name: "c", Count: 2}, "\x00\xb7"}, {api.Command{Op: api.OpRead, Name: "b", At: 1, Count: 2}, "\x00\xbf"}, {api.Command{Op: api.OpRead, Name: "b", At: 1, Count: 1}, ok + block(1)},
		{api.Command{Op: api.OpDelete, Name: "vol1"}, ok}, {api.Command{Op: api.OpDelete, Name: "vol1"}, "\x00\xb7"}, {api.Command{Op: api.OpList}, ok + "\x01b\x00\x02"},
		{api.Command{Op: api.OpCreate, Name: "z", Count: 4096}, ok}, {api.Command{Op: api.OpList}, ok + "\x01b\x00\x02" + "\x01z\x10\x00"},
	} {
		wantDo(t, m, x.c, x.want)
	}
}

func TestN2WhatIsNoCommand(t *testing.T) {
	k, m := start(t, g)
	acts := k.Acts()
	for _, s := range []string{"", "\x00", "\x09\x00", "\x0a", "\xff", "x", strings.Repeat("\x01", 1000), encode(t, api.Command{Op: api.OpCreate, Name: "a"}) + "x", "\x02\x15" + strings.Repeat("n", 21)} {
		if got := m.Do(s); got != "\x00\xc8" {
			t.Errorf("%q: %q", s, got)
		}
	}
	if k.Acts() != acts {
		t.Error("actions")
	}
	wantDo(t, m, api.Command{Op: api.OpList}, ok)
}

func TestN2ErrorsOfTheArray(t *testing.T) {
	k, m := start(t, g)
	wantDo(t, m, api.Command{Op: api.OpCreate, Name: "a", Count: 10}, ok)
	k.Arm(1)
	wantDo(t, m, api.Command{Op: api.OpCreate, Name: "b", Count: 10}, "\x00\x5a")
	k.Restart(nil)
	for _, c := range []api.Command{{Op: api.OpCreate, Name: "a"}, {Op: api.OpDelete, Name: "a"}, {Op: api.OpSnap}, {Op: api.OpResize}, {Op: api.OpWrite}, {Op: api.OpRead, Name: "a", Count: 1}, {Op: api.OpDiscard}, {Op: api.OpList}, {Op: api.OpStat}} {
		wantDo(t, m, c, "\x00\x5a")
	}
	if got := m.Do("x"); got != "\x00\xc8" {
		t.Errorf("%q", got)
	}
	if l := m.Label(); l.ID != id {
		t.Error(l)
	}
	if e := m.Begin(0); e != api.ErrRackPower {
		t.Error(e)
	}
	if idle, e := m.Step(); idle || e != api.ErrRackPower {
		t.Error(idle, e)
	}
	if n, e := m.Scrub(); n != 0 || e != api.ErrRackPower {
		t.Error(n, e)
	}
}

func TestN3Repair(t *testing.T) {
	k, m := start(t, g)
	want := api.Label{ID: id, Gen: 1, Geo: g, States: []int{1, 1, 1}, Born: []int{1, 1, 1}, Cursors: []int{0, 0, 0}}
	if !label.Same(m.Label(), want) {
		t.Error(m.Label())
	}
	if e := m.Begin(1); e != api.ErrRepairSlot {
		t.Error(e)
	}
	if e := m.Begin(math.MinInt); e != api.ErrRepairSlot {
		t.Error(e)
	}
	k.Rot(2, geo.Sector(g, 3), 4, 4)
	k.Rot(0, geo.Sector(g, 5), 4, 4)
	if n, e := m.Scrub(); n != 2 || e != api.OK {
		t.Error(n, e)
	}
	if idle, e := m.Step(); !idle || e != api.OK {
		t.Error(idle, e)
	}
	k.Fail(1)
	wantDo(t, m, api.Command{Op: api.OpCreate, Name: "b", Count: 10}, ok)
	k.Blank(1)
	if e := m.Begin(1); e != api.OK {
		t.Error(e)
	}
	for range geo.Stripes(g) + 1 {
		if idle, e := m.Step(); idle || e != api.OK {
			t.Error(idle, e)
		}
	}
	if idle, e := m.Step(); !idle || e != api.OK {
		t.Error(idle, e)
	}
	if l := m.Label(); l.States[1] != api.SlotIn || l.Born[1] != 3 {
		t.Error(l)
	}
}

func TestEnginesAreIndependent(t *testing.T) {
	_, one := start(t, g)
	_, two := start(t, g)
	wantDo(t, one, api.Command{Op: api.OpCreate, Name: "b", Count: 10}, ok)
	wantDo(t, two, api.Command{Op: api.OpList}, ok)
}
