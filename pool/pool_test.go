package pool_test

import (
	"math"
	"slices"
	"strings"
	"testing"

	"stave/api"
	"stave/array"
	"stave/count"
	"stave/dir"
	"stave/geo"
	"stave/pool"
	"stave/rack"
)

const id = 12

var g = api.Geometry{K: 2, M: 1, Blocks: 16}

func start(t *testing.T, g api.Geometry) (*rack.Rack, *array.Array, *pool.Pool) {
	t.Helper()
	k, _ := rack.New(geo.Slots(g), geo.Sectors(g))
	a, e := array.Format(k, id, g)
	if e != api.OK {
		t.Fatal(e)
	}
	p, e := pool.Make(a)
	if e != api.OK || p == nil {
		t.Fatal(e)
	}
	return k, a, p
}

func block(n int) string { return strings.Repeat(string([]byte{byte(n), byte(n >> 8), 'p'}), 40) }

var zero = strings.Repeat("\x00", 120)

func want(t *testing.T, got, want api.Errno) {
	t.Helper()
	if got != want {
		t.Fatal("the error", got, "and not", want)
	}
}

func wantFree(t *testing.T, p *pool.Pool, free int) {
	t.Helper()
	if s, e := p.Stat(); e != api.OK || s.Free != free {
		t.Fatal("Stat", s, e, "and not", free)
	}
}

func wantRead(t *testing.T, p *pool.Pool, name string, at int, blocks ...string) {
	t.Helper()
	if s, e := p.Read(name, at, len(blocks)); e != api.OK || s != strings.Join(blocks, "") {
		t.Fatalf("Read %s %d: %.4q.. %d", name, at, s, e)
	}
}

func wantList(t *testing.T, p *pool.Pool, want string) {
	t.Helper()
	l, e := p.List()
	var names []string
	for _, v := range l {
		names = append(names, v.Name)
	}
	if e != api.OK || strings.Join(names, " ") != want {
		t.Fatal("List", l, e, "and not", want)
	}
}

func TestExample(t *testing.T) {
	_, _, p := start(t, g)
	wantFree(t, p, 13)
	want(t, p.Create("a", 100), api.OK)
	want(t, p.Write("a", 17, block(1)), api.OK)
	wantFree(t, p, 9)
	want(t, p.Snap("a", "b"), api.OK)
	wantFree(t, p, 9)
	want(t, p.Write("b", 17, block(2)), api.OK)
	wantFree(t, p, 5)
	wantRead(t, p, "a", 17, block(1))
	wantRead(t, p, "b", 17, block(2))
	want(t, p.Delete("b"), api.OK)
	wantFree(t, p, 9)
	want(t, p.Write("a", 18, block(1)), api.OK)
	wantFree(t, p, 8)
	want(t, p.Resize("a", 18), api.OK)
	wantFree(t, p, 9)
	want(t, p.Delete("a"), api.OK)
	wantFree(t, p, 13)
}

func TestV1MakeAndOpen(t *testing.T) {
	if p, e := pool.Make(nil); p != nil || e != api.ErrArg {
		t.Error(e)
	}
	if p, e := pool.Open(nil); p != nil || e != api.ErrArg {
		t.Error(e)
	}
	for _, g := range []api.Geometry{g, {K: 1, M: 1, Blocks: 8}, {K: 4, M: 3, Blocks: 200}} {
		_, a, p := start(t, g)
		if s, e := p.Stat(); e != api.OK || s != (api.Stat{Volumes: 0, Used: 3, Free: g.Blocks - 3}) {
			t.Error(s, e)
		}
		if a.Seq() != 1 {
			t.Error("commits", a.Seq())
		}
		directory, _ := dir.Put(g.Blocks, nil)
		table, _ := count.New(g.Blocks)
		for b, text := range append([]string{directory}, table.Lay()...) {
			if s, e := a.Read(b); e != api.OK || s != text {
				t.Error("block", b, e)
			}
		}
		want(t, p.Create("x", 7), api.OK)
		want(t, p.Write("x", 3, block(5)[:120]), api.OK)
		q, e := pool.Open(a)
		if e != api.OK {
			t.Fatal(e)
		}
		wantRead(t, q, "x", 3, block(5))
		l, _ := q.List()
		m, _ := p.List()
		if !slices.Equal(l, m) {
			t.Error(l, m)
		}
		// Make once more: all is gone.
		if p, e = pool.Make(a); e != api.OK {
			t.Fatal(e)
		}
		wantList(t, p, "")
		wantFree(t, p, g.Blocks-3)
	}
}

func TestV1Errors(t *testing.T) {
	// A stripe that can't be read.
	for _, stripe := range []int{0, 1} {
		k, a, _ := start(t, g)
		k.Rot(0, geo.Sector(g, stripe), 1, 1)
		k.Rot(1, geo.Sector(g, stripe), 1, 1)
		if p, e := pool.Open(a); p != nil || e != api.ErrArrayFailed {
			t.Error("Open", e)
		}
		if p, e := pool.Make(a); p != nil || e != api.ErrArrayFailed {
			t.Error("Make", e)
		}
	}
	k, a, _ := start(t, g)
	k.Arm(1)
	if p, e := pool.Make(a); p != nil || e != api.ErrRackPower {
		t.Error("Make", e)
	}
	k.Restart(nil)
	if p, e := pool.Open(a); p != nil || e != api.ErrRackPower {
		t.Error("Open", e)
	}
	// What is no pool.
	directory := func(blocks int, l ...api.Volume) string {
		s, _ := dir.Put(blocks, l)
		return s
	}
	table, _ := count.New(16)
	parts := table.Lay()
	for i, x := range []struct {
		texts []string
		e     api.Errno
	}{
		{[]string{directory(16), parts[0], parts[1]}, api.OK},
		{[]string{directory(17), parts[0], parts[1]}, api.ErrPoolForm}, {[]string{directory(15), parts[0], parts[1]}, api.ErrPoolForm}, {[]string{zero, parts[0], parts[1]}, api.ErrPoolForm}, {[]string{block(1), parts[0], parts[1]}, api.ErrPoolForm},
		{[]string{directory(16), zero, parts[1]}, api.ErrPoolForm}, {[]string{directory(16), parts[0], parts[0]}, api.ErrPoolForm}, {[]string{directory(16), parts[1], parts[0]}, api.ErrPoolForm}, {[]string{directory(16), parts[0][:16] + "\x01" + parts[0][17:], parts[1]}, api.ErrPoolForm},
		{[]string{directory(16), parts[0][:15] + "\x01" + parts[0][16:], parts[1]}, api.OK},
	} {
		_, a, _ := start(t, g)
		for b, s := range x.texts {
			want(t, a.Commit([]api.Write{{Block: b, Data: s}}), api.OK)
		}
		if p, e := pool.Open(a); (p == nil) != (e != api.OK) || e != x.e {
			t.Error(i, e)
		}
	}
	_, a, _ = start(t, g)
	b, _ := array.Format(mustRack(t), id, g)
	if p, e := pool.Open(b); p != nil || e != api.ErrPoolForm {
		t.Error("an array without a pool", e)
	}
	// A tree that is none.
	want(t, a.Commit([]api.Write{{Block: 0, Data: directory(16, api.Volume{Name: "x", Size: 5, Root: 4})}}), api.OK)
	p, e := pool.Open(a)
	want(t, e, api.OK)
	if s, e := p.Read("x", 0, 1); s != "" || e != api.ErrPoolForm {
		t.Error(e)
	}
	want(t, p.Write("x", 0, block(1)), api.ErrPoolForm)
	want(t, p.Delete("x"), api.ErrPoolForm)
	want(t, p.Resize("x", 1), api.ErrPoolForm)
	want(t, p.Discard("x", 0, 1), api.ErrPoolForm)
	want(t, p.Snap("x", "y"), api.ErrPoolSpace) // the count of the root is 0
	wantList(t, p, "x")
}

func mustRack(t *testing.T) *rack.Rack {
	t.Helper()
	k, e := rack.New(geo.Slots(g), geo.Sectors(g))
	if e != api.OK {
		t.Fatal(e)
	}
	return k
}

func TestV2TheErrorOfTheArrayFirst(t *testing.T) {
	k, a, p := start(t, g)
	want(t, p.Create("a", 10), api.OK)
	k.Arm(1)
	want(t, p.Write("a", 0, block(1)), api.ErrRackPower)
	k.Restart(nil)
	want(t, a.Error(), api.ErrRackPower)
	for _, name := range []string{"a", "b", "Z"} {
		want(t, p.Create(name, -1), api.ErrRackPower)
		want(t, p.Delete(name), api.ErrRackPower)
		want(t, p.Snap(name, name), api.ErrRackPower)
		want(t, p.Resize(name, 10), api.ErrRackPower)
		want(t, p.Write(name, 0, ""), api.ErrRackPower)
		want(t, p.Discard(name, 0, 0), api.ErrRackPower)
		if s, e := p.Read(name, 0, 1); s != "" || e != api.ErrRackPower {
			t.Error(e)
		}
	}
	if l, e := p.List(); len(l) != 0 || e != api.ErrRackPower {
		t.Error(l, e)
	}
	if s, e := p.Stat(); s != (api.Stat{}) || e != api.ErrRackPower {
		t.Error(s, e)
	}
}

func TestV3Volumes(t *testing.T) {
	k, a, p := start(t, g)
	acts := k.Acts()
	for i, x := range []struct {
		name string
		size int
		e    api.Errno
	}{{"a", -1, api.ErrPoolRange}, {"a", 4097, api.ErrPoolRange}, {"A", 4097, api.ErrPoolRange}, {"A", 1, api.ErrDirName}, {"", 1, api.ErrDirName}, {"a", math.MaxInt, api.ErrPoolRange}} {
		if e := p.Create(x.name, x.size); e != x.e {
			t.Error(i, e)
		}
	}
	want(t, p.Delete("a"), api.ErrDirNone)
	want(t, p.Snap("a", "A"), api.ErrDirNone)
	want(t, p.Resize("a", -1), api.ErrDirNone)
	if k.Acts() != acts {
		t.Error("actions")
	}
	want(t, p.Create("m", 4096), api.OK)
	if k.Acts() == acts {
		t.Error("not written")
	}
	want(t, p.Create("c", 0), api.OK)
	want(t, p.Create("m", 5), api.ErrDirTwice)
	want(t, p.Create("m", -5), api.ErrPoolRange)
	want(t, p.Snap("m", "z"), api.OK)
	want(t, p.Snap("m", "z"), api.ErrDirTwice)
	want(t, p.Snap("m", "m"), api.ErrDirTwice)
	want(t, p.Snap("m", "no name"), api.ErrDirName)
	want(t, p.Snap("x", "z"), api.ErrDirNone)
	wantList(t, p, "c m z")
	l, _ := p.List()
	if !slices.Equal(l, []api.Volume{{Name: "c"}, {Name: "m", Size: 4096}, {Name: "z", Size: 4096}}) {
		t.Error(l)
	}
	l[0].Name = "changed"
	wantList(t, p, "c m z")
	for _, name := range []string{"d", "e", "f", "g", "h"} {
		want(t, p.Create(name, 1), api.OK)
	}
	want(t, p.Create("i", 1), api.ErrDirFull)
	want(t, p.Snap("m", "i"), api.ErrDirFull)
	want(t, p.Snap("m", "c"), api.ErrDirTwice)
	if s, e := p.Stat(); e != api.OK || s != (api.Stat{Volumes: 8, Used: 3, Free: 13}) {
		t.Error(s, e)
	}
	want(t, p.Delete("d"), api.OK)
	want(t, p.Delete("d"), api.ErrDirNone)
	want(t, p.Resize("z", 4097), api.ErrPoolRange)
	want(t, p.Resize("z", -1), api.ErrPoolRange)
	want(t, p.Resize("z", 7), api.OK)
	want(t, p.Resize("z", 9), api.OK)
	acts = k.Acts()
	want(t, p.Resize("z", 9), api.OK)
	if k.Acts() != acts {
		t.Error("written without a change")
	}
	l, _ = p.List()
	if v := l[len(l)-1]; v != (api.Volume{Name: "z", Size: 9}) {
		t.Error(v)
	}
	q, e := pool.Open(a)
	want(t, e, api.OK)
	wantList(t, q, "c e f g h m z")
}

func TestV3Trees(t *testing.T) {
	_, _, p := start(t, api.Geometry{K: 2, M: 1, Blocks: 60})
	want(t, p.Create("a", 600), api.OK)
	for _, at := range []int{0, 15, 16, 299, 599} {
		want(t, p.Write("a", at, block(at)), api.OK)
	}
	want(t, p.Snap("a", "s"), api.OK)
	wantFree(t, p, 57-5-1-3-4)
	want(t, p.Resize("a", 16), api.OK)
	wantRead(t, p, "a", 14, zero, block(15))
	wantRead(t, p, "s", 15, block(15), block(16))
	wantRead(t, p, "s", 599, block(599))
	want(t, p.Resize("a", 600), api.OK)
	wantRead(t, p, "a", 15, block(15), zero, zero, zero)
	wantRead(t, p, "a", 599, zero)
	want(t, p.Resize("s", 300), api.OK)
	wantRead(t, p, "s", 298, zero, block(299))
	want(t, p.Delete("a"), api.OK)
	wantRead(t, p, "s", 14, zero, block(15), block(16))
	want(t, p.Delete("s"), api.OK)
	wantFree(t, p, 57)
}

func TestV4WriteErrors(t *testing.T) {
	k, _, p := start(t, g)
	want(t, p.Create("a", 10), api.OK)
	acts := k.Acts()
	five := strings.Repeat("x", 600)
	for i, x := range []struct {
		name string
		at   int
		data string
		e    api.Errno
	}{
		{"b", 0, "", api.ErrDirNone}, {"", -1, block(1), api.ErrDirNone}, {"a", 0, "", api.ErrPoolRange}, {"a", 0, block(1)[1:], api.ErrPoolRange}, {"a", 0, block(1) + "x", api.ErrPoolRange}, {"a", 0, five, api.ErrPoolRange}, {"a", 0, five[1:], api.ErrPoolRange},
		{"a", -1, block(1), api.ErrPoolRange}, {"a", 10, block(1), api.ErrPoolRange}, {"a", 9, five[:240], api.ErrPoolRange}, {"a", 7, five[:480], api.ErrPoolRange}, {"a", math.MaxInt, block(1), api.ErrPoolRange}, {"a", math.MinInt, block(1), api.ErrPoolRange},
	} {
		if e := p.Write(x.name, x.at, x.data); e != x.e {
			t.Error(i, e)
		}
	}
	for i, x := range []struct {
		name      string
		at, count int
		e         api.Errno
	}{
		{"b", 0, 0, api.ErrDirNone}, {"a", 0, 0, api.ErrPoolRange}, {"a", 0, -1, api.ErrPoolRange}, {"a", 0, 11, api.ErrPoolRange}, {"a", -1, 1, api.ErrPoolRange}, {"a", 10, 1, api.ErrPoolRange}, {"a", 0, math.MaxInt, api.ErrPoolRange}, {"a", 0, math.MinInt, api.ErrPoolRange}, {"a", math.MaxInt, 1, api.ErrPoolRange}, {"a", 0, 10, api.OK}, {"a", 9, 1, api.OK},
	} {
		if e := p.Discard(x.name, x.at, x.count); e != x.e {
			t.Error("Discard", i, e)
		}
		if s, e := p.Read(x.name, x.at, x.count); x.count < 5 && e != x.e || x.count >= 5 && e != api.ErrPoolRange || e != api.OK && s != "" {
			t.Error("Read", i, e)
		}
	}
	if k.Acts() != acts {
		t.Error("actions")
	}
	want(t, p.Write("a", 6, five[:480]), api.OK)
	wantRead(t, p, "a", 6, five[:120], five[:120], five[:120], five[:120])
	want(t, p.Create("big", 4096), api.OK)
	want(t, p.Discard("big", 4080, 16), api.OK)
	want(t, p.Discard("big", 0, 17), api.ErrPoolRange)
	if s, e := p.Read("big", 0, 5); s != "" || e != api.ErrPoolRange {
		t.Error(e)
	}
}

func TestV4WriteInPlace(t *testing.T) {
	k, a, p := start(t, g)
	want(t, p.Create("a", 100), api.OK)
	want(t, p.Write("a", 17, block(1)), api.OK)
	seq := a.Seq()
	want(t, p.Write("a", 17, block(2)), api.OK)
	wantFree(t, p, 9)
	if a.Seq() != seq+1 {
		t.Error("commits", a.Seq()-seq)
	}
	// Only the block is written: 2 strings of a body in three slots, and what follows.
	acts := k.Acts()
	want(t, p.Write("a", 17, block(3)), api.OK)
	if got := k.Acts() - acts; got != 3*(2+1+1+1)+3+3 {
		t.Error("actions", got)
	}
	wantRead(t, p, "a", 17, block(3))
	// In a snapshot the block is copied first, and then it is alone again.
	want(t, p.Snap("a", "b"), api.OK)
	want(t, p.Write("a", 17, block(4)), api.OK)
	wantFree(t, p, 5)
	want(t, p.Write("a", 17, block(5)), api.OK)
	wantFree(t, p, 5)
	want(t, p.Write("b", 17, block(6)), api.OK)
	wantFree(t, p, 5)
	wantRead(t, p, "a", 17, block(5))
	wantRead(t, p, "b", 17, block(6))
}

func TestV4Runs(t *testing.T) {
	_, _, p := start(t, api.Geometry{K: 2, M: 1, Blocks: 40})
	want(t, p.Create("a", 4096), api.OK)
	// Over the edge of two nodes on both levels: 4 blocks, and 5 nodes.
	want(t, p.Write("a", 254, block(1)+block(2)+block(3)+block(4)), api.OK)
	wantFree(t, p, 37-9)
	wantRead(t, p, "a", 253, zero, block(1), block(2), block(3))
	wantRead(t, p, "a", 256, block(3), block(4), zero, zero)
	want(t, p.Snap("a", "b"), api.OK)
	want(t, p.Write("a", 255, block(5)+block(6)), api.OK)
	wantFree(t, p, 37-9-7)
	wantRead(t, p, "a", 254, block(1), block(5), block(6), block(4))
	wantRead(t, p, "b", 254, block(1), block(2), block(3), block(4))
	want(t, p.Discard("a", 250, 16), api.OK)
	wantRead(t, p, "a", 254, zero, zero, zero, zero)
	wantRead(t, p, "b", 254, block(1), block(2), block(3), block(4))
	wantFree(t, p, 37-9)
	want(t, p.Discard("b", 255, 2), api.OK)
	wantRead(t, p, "b", 254, block(1), zero, zero, block(4))
	wantFree(t, p, 37-7)
}

func TestPoolSpace(t *testing.T) {
	g := api.Geometry{K: 1, M: 1, Blocks: 8}
	k, a, p := start(t, g)
	want(t, p.Create("a", 4096), api.OK)
	want(t, p.Write("a", 0, block(1)+block(2)), api.OK)
	wantFree(t, p, 0)
	acts := k.Acts()
	want(t, p.Write("a", 2, block(3)), api.ErrPoolSpace)
	want(t, p.Write("a", 1, block(3)+block(4)), api.ErrPoolSpace)
	want(t, p.Write("a", 300, block(3)), api.ErrPoolSpace)
	if k.Acts() != acts {
		t.Error("actions")
	}
	wantRead(t, p, "a", 0, block(1), block(2), zero)
	want(t, p.Write("a", 1, block(9)), api.OK)
	want(t, p.Snap("a", "b"), api.OK)
	want(t, p.Discard("b", 0, 1), api.ErrPoolSpace)
	want(t, p.Write("b", 0, block(3)), api.ErrPoolSpace)
	want(t, p.Resize("b", 1), api.ErrPoolSpace)
	wantRead(t, p, "b", 0, block(1), block(9), zero)
	q, e := pool.Open(a)
	want(t, e, api.OK)
	wantRead(t, q, "b", 0, block(1), block(9), zero)
	want(t, p.Delete("a"), api.OK)
	want(t, p.Discard("b", 0, 1), api.OK)
	wantFree(t, p, 1)
}

func TestV5ReadErrors(t *testing.T) {
	k, a, p := start(t, g)
	want(t, p.Create("a", 10), api.OK)
	want(t, p.Write("a", 0, block(1)+block(2)), api.OK)
	// 3 and 7 hold the data, 4 to 6 the nodes; stripes have two blocks each.
	for n, x := range map[int]struct {
		at int
		e  api.Errno
	}{1: {0, api.ErrArrayFailed}, 2: {0, api.ErrArrayFailed}, 5: {0, api.OK}} {
		for slot := range 2 {
			k.Rot(slot, geo.Sector(g, n), 1, 1)
		}
		if s, e := p.Read("a", x.at, 1); e != x.e || e != api.OK && s != "" {
			t.Error(n, e)
		}
		want(t, a.Error(), api.OK)
		for slot := range 2 {
			k.Rot(slot, geo.Sector(g, n), 1, 1)
		}
	}
	wantRead(t, p, "a", 0, block(1), block(2), zero, zero)
	k.Arm(1)
	k.Flush(0)
	if s, e := p.Read("a", 5, 1); s != "" || e != api.ErrRackPower {
		t.Error(e)
	}
	want(t, a.Error(), api.ErrRackPower)
}

func TestChangeThatFailsChangesNothing(t *testing.T) {
	k, a, p := start(t, g)
	want(t, p.Create("a", 100), api.OK)
	want(t, p.Write("a", 0, block(1)), api.OK)
	// Block 8 stands in a stripe that can't be read, so the commit fails.
	for slot := range 2 {
		k.Rot(slot, geo.Sector(g, 4), 1, 1)
	}
	want(t, p.Write("a", 1, block(2)+block(3)), api.ErrArrayFailed)
	wantFree(t, p, 9)
	wantRead(t, p, "a", 0, block(1), zero, zero)
	want(t, a.Error(), api.OK)
	want(t, p.Write("a", 1, block(2)), api.OK)
	wantRead(t, p, "a", 0, block(1), block(2), zero)
}
