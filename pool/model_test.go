package pool_test

import (
	"maps"
	"slices"
	"strings"
	"testing"

	"stave/api"
	"stave/array"
	"stave/pool"
)

// disk is what a volume should be.
type disk struct {
	size   int
	blocks map[int]string
}

type disks map[string]disk

func (m disks) clone() disks {
	other := disks{}
	for name, d := range m {
		other[name] = disk{d.size, maps.Clone(d.blocks)}
	}
	return other
}

func (d disk) read(at, count int) string {
	s := ""
	for i := range count {
		if b, ok := d.blocks[at+i]; ok {
			s += b
		} else {
			s += zero
		}
	}
	return s
}

// dice yields numbers that look random, the same in each run.
type dice uint64

func (d *dice) below(limit int) int {
	*d = *d*6364136223846793005 + 1442695040888963407
	return int(uint64(*d)>>33) % limit
}

// deed is a call: what it does to the model, and to a pool.
type deed struct {
	on func(m disks)
	do func(p *pool.Pool) api.Errno
}

// next is a call that should succeed, but for the space.
func next(d *dice, m disks, step int) deed {
	names := slices.Sorted(maps.Keys(m))
	fresh := string(rune('a'+d.below(26))) + string(rune('0'+d.below(10)))
	_, taken := m[fresh]
	if len(names) == 0 || d.below(12) == 0 && len(names) < 8 && !taken {
		size := []int{5, 40, 600, 4096}[d.below(4)]
		return deed{func(m disks) { m[fresh] = disk{size, map[int]string{}} }, func(p *pool.Pool) api.Errno { return p.Create(fresh, size) }}
	}
	name := names[d.below(len(names))]
	size := m[name].size
	switch what := d.below(12); {
	case what == 0:
		return deed{func(m disks) { delete(m, name) }, func(p *pool.Pool) api.Errno { return p.Delete(name) }}
	case what == 1 && len(names) < 8 && !taken:
		return deed{func(m disks) { m[fresh] = m.clone()[name] }, func(p *pool.Pool) api.Errno { return p.Snap(name, fresh) }}
	case what == 2:
		now := []int{d.below(size + 1), min(size+10, 4096), 17}[d.below(3)]
		return deed{func(m disks) {
			maps.DeleteFunc(m[name].blocks, func(at int, _ string) bool { return at >= now })
			m[name] = disk{now, m[name].blocks}
		}, func(p *pool.Pool) api.Errno { return p.Resize(name, now) }}
	case what < 5 && size > 0:
		count := d.below(min(16, size)) + 1
		at := d.below(min(size-count+1, 300))
		return deed{func(m disks) {
			for i := range count {
				delete(m[name].blocks, at+i)
			}
		}, func(p *pool.Pool) api.Errno { return p.Discard(name, at, count) }}
	case size > 0:
		count := d.below(min(4, size)) + 1
		at := d.below(min(size-count+1, 300))
		data := ""
		for i := range count {
			data += block(step*4 + i)
		}
		return deed{func(m disks) {
			for i := range count {
				m[name].blocks[at+i] = data[120*i : 120*(i+1)]
			}
		}, func(p *pool.Pool) api.Errno { return p.Write(name, at, data) }}
	}
	return deed{func(m disks) {}, func(p *pool.Pool) api.Errno { return p.Resize(name, size) }}
}

// differs tells where a pool is not as it should be, or nothing.
func differs(p *pool.Pool, m disks) string {
	l, e := p.List()
	if e != api.OK || len(l) != len(m) {
		return "the list"
	}
	for _, v := range l {
		d, ok := m[v.Name]
		if !ok || d.size != v.Size {
			return "the volume " + v.Name
		}
		places := []int{}
		for at := range min(v.Size, 310) {
			places = append(places, at)
		}
		for i := 0; i < len(places); i += 4 {
			count := min(4, v.Size-i)
			if s, e := p.Read(v.Name, i, count); e != api.OK || s != d.read(i, count) {
				return "the content of " + v.Name
			}
		}
	}
	return ""
}

func wantNoDifference(t *testing.T, p *pool.Pool, m disks, where ...int) {
	t.Helper()
	if what := differs(p, m); what != "" {
		t.Fatal(what, where)
	}
}

func TestV6Model(t *testing.T) {
	for seed := range 12 {
		d := dice(seed)
		g := api.Geometry{K: seed%4 + 1, M: seed%3 + 1, Blocks: []int{200, 40, 100, 20}[seed%4]}
		_, a, p := start(t, g)
		m := disks{}
		for step := range 150 {
			before, _ := p.Stat()
			x := next(&d, m, step)
			switch e := x.do(p); {
			case e == api.OK:
				x.on(m)
			case e != api.ErrPoolSpace || before.Free >= 12:
				t.Fatal(seed, step, e, before)
			default:
				if after, _ := p.Stat(); after != before {
					t.Fatal("ErrPoolSpace changes something", before, after)
				}
			}
			if step%10 == 0 {
				wantNoDifference(t, p, m, seed, step)
			}
			mapped := 0
			for _, x := range m {
				mapped += len(x.blocks)
			}
			if s, e := p.Stat(); e != api.OK || s.Volumes != len(m) || s.Used+s.Free != g.Blocks || s.Used > 3+4*mapped {
				t.Fatal("Stat", seed, step, s, e)
			}
			if step%17 == 0 {
				var e api.Errno
				if p, e = pool.Open(a); e != api.OK {
					t.Fatal(e)
				}
				wantNoDifference(t, p, m, seed, step)
			}
		}
		for name := range m {
			want(t, p.Delete(name), api.OK)
		}
		wantFree(t, p, g.Blocks-3)
	}
}

// TestV6Crashes lets the power go off at some action of each call.
func TestV6Crashes(t *testing.T) {
	old, fresh := 0, 0
	for seed := range 6 {
		d := dice(seed + 100)
		k, a, p := start(t, api.Geometry{K: 2, M: 1, Blocks: 40})
		m := disks{}
		for step := range 120 {
			x := next(&d, m, step)
			after := m.clone()
			x.on(after)
			k.Arm(d.below(60) + 1)
			e := x.do(p)
			if e == api.OK {
				m = after
			}
			if e == api.OK || e == api.ErrPoolSpace {
				k.Arm(0)
				continue
			}
			want(t, e, api.ErrRackPower)
			choices := make([][]int, 3)
			for slot := range choices {
				for range 60 {
					choices[slot] = append(choices[slot], d.below(3))
				}
			}
			k.Restart(choices)
			lost := d.below(8)
			k.Blank(lost)
			if a, e = array.Mount(k, id); e != api.OK {
				t.Fatal("Mount", e)
			}
			if p, e = pool.Open(a); e != api.OK {
				t.Fatal("Open", e)
			}
			if differs(p, m) == "" {
				old++
			} else {
				wantNoDifference(t, p, after, seed, step)
				m = after
				fresh++
			}
			for slot, state := range a.Label().States {
				if state != api.SlotOut {
					continue
				}
				want(t, a.Set(slot, api.SlotBuilding, 0), api.OK)
				for n := range 20 {
					want(t, a.Patch(n, []int{slot}), api.OK)
				}
				want(t, a.Set(slot, api.SlotIn, 0), api.OK)
			}
		}
		wantNoDifference(t, p, m, seed)
	}
	if old < 20 || fresh < 20 {
		t.Error("too few crashes", old, fresh)
	}
}

func TestChangedVolumesLeaveTheOthers(t *testing.T) {
	_, _, p := start(t, api.Geometry{K: 4, M: 1, Blocks: 200})
	want(t, p.Create("a", 300), api.OK)
	for at := 0; at < 40; at += 4 {
		want(t, p.Write("a", at, block(at)+block(at+1)+block(at+2)+block(at+3)), api.OK)
	}
	var before strings.Builder
	for at := range 40 {
		before.WriteString(block(at))
	}
	for i, name := range []string{"b", "c", "d"} {
		want(t, p.Snap("a", name), api.OK)
		want(t, p.Write(name, 10*i, block(900+i)), api.OK)
		want(t, p.Discard(name, 10*i+1, 3), api.OK)
	}
	for at := range 40 {
		wantRead(t, p, "a", at, before.String()[120*at:120*(at+1)])
		for i, name := range []string{"b", "c", "d"} {
			content := block(at)
			if at == 10*i {
				content = block(900 + i)
			} else if at > 10*i && at <= 10*i+3 {
				content = zero
			}
			wantRead(t, p, name, at, content)
		}
	}
	want(t, p.Delete("a"), api.OK)
	wantRead(t, p, "d", 30, block(30))
}
