package array_test

import (
	"testing"

	"stave/api"
	"stave/array"
	"stave/geo"
	"stave/rack"
)

// choices are what a crash keeps: nothing, the oldest, the newest, and mixtures.
func choices(seed int) [][]int {
	var l [][]int
	for slot := range 7 {
		var c []int
		for i := range 100 {
			switch seed {
			case 0, 1, 2:
				c = append(c, seed)
			default:
				c = append(c, (seed*(7*i+3*slot+1)+i*i/3)%3)
			}
		}
		l = append(l, c)
	}
	return l
}

// loss is something that happens to one slot.
func loss(k *rack.Rack, kind, slot int) {
	switch kind {
	case 1:
		k.Fail(slot)
	case 2:
		k.Blank(slot)
	case 3:
		k.Rot(slot, 0, 5, 1)
		k.Rot(slot, 1, 5, 1)
	case 4:
		k.Rot(slot, geo.Head(g, 0), 5, 1)
		k.Rot(slot, geo.Head(g, 1), 5, 1)
	case 5:
		for at := geo.Sector(g, 0); at < geo.Sectors(g); at++ {
			k.Rot(slot, at, 5, 1)
		}
	}
}

// wantOneOf looks whether all blocks hold what one of two seeds says.
func wantOneOf(t *testing.T, a *array.Array, was, now func(n int) string, where ...int) bool {
	t.Helper()
	old, fresh := true, true
	for n := range g.Blocks {
		s, e := a.Read(n)
		if e != api.OK {
			t.Fatal("Read", n, e, where)
		}
		old, fresh = old && s == was(n), fresh && s == now(n)
	}
	if !old && !fresh {
		t.Fatal("neither before nor after", where)
	}
	return fresh
}

func content(writes map[int]int) func(n int) string {
	return func(n int) string {
		if seed, ok := writes[n]; ok {
			return block(seed)
		}
		return zero
	}
}

var (
	before = map[int]int{1: 11, 3: 13, 4: 14, 6: 16, 15: 25}
	after  = map[int]int{1: 11, 3: 63, 4: 64, 6: 16, 7: 67, 15: 25}
)

func written(t *testing.T) (*rack.Rack, *array.Array) {
	t.Helper()
	k, a := format(t, g)
	commit(t, a, 0, 1, 2) // overwritten or not, all of it in other bays
	want(t, a.Commit([]api.Write{{Block: 1, Data: block(11)}, {Block: 2, Data: zero}, {Block: 6, Data: block(16)}}), api.OK)
	want(t, a.Commit([]api.Write{{Block: 3, Data: block(13)}, {Block: 4, Data: block(14)}, {Block: 15, Data: block(25)}}), api.OK)
	return k, a
}

func change(a *array.Array) api.Errno {
	return a.Commit([]api.Write{{Block: 7, Data: block(67)}, {Block: 3, Data: block(63)}, {Block: 4, Data: block(64)}})
}

// TestA7CrashInCommit lets the power go off at each action of a commit; before, or before the next mount, one slot is lost.
func TestA7CrashInCommit(t *testing.T) {
	t.Parallel()
	for kind := range 6 {
		for early := range 2 {
			for slot := range 3 {
				if kind == 0 && early+slot > 0 || kind == 3 && early == 1 || kind == 4 && early == 1 {
					continue
				}
				for n := 1; ; n++ {
					done := false
					for seed := range 6 {
						k, a := written(t)
						if early == 1 {
							loss(k, kind, slot)
						}
						k.Arm(n)
						e := change(a)
						done = e == api.OK
						k.Restart(choices(seed))
						if early == 0 {
							loss(k, kind, slot)
						}
						a = mount(t, k)
						got := wantOneOf(t, a, content(before), content(after), kind, early, slot, n, seed)
						if done && !got {
							t.Fatal("a commit that returned OK is gone", kind, early, slot, n, seed)
						}
						// And it stays so, with one more mount and one more commit.
						commit(t, a, 500, 0)
						a = mount(t, k)
						wantBlock(t, a, 0, block(500))
						if s, _ := a.Read(3); (s == block(63)) != got {
							t.Fatal("another state later", kind, early, slot, n, seed)
						}
					}
					if done {
						break
					}
				}
			}
		}
	}
}

// TestA7CrashInMount lets the power go off in a commit, and then at each action of the mount that follows it.
func TestA7CrashInMount(t *testing.T) {
	t.Parallel()
	for _, first := range []int{1, 8, 20, 24, 26, 28, 30, 33, 36, 40} {
		for _, kind := range []int{0, 1, 2, 3} {
			for n := 1; ; n++ {
				done := false
				for seed := range 6 {
					k, a := written(t)
					k.Arm(first)
					change(a)
					k.Restart(choices(seed))
					loss(k, kind, first%3)
					k.Arm(n)
					_, e := array.Mount(k, id)
					done = e == api.OK
					if !done && e != api.ErrRackPower {
						t.Fatal(e)
					}
					k.Restart(choices((seed + n) % 6))
					a = mount(t, k)
					wantOneOf(t, a, content(before), content(after), first, kind, n, seed)
				}
				if done {
					break
				}
			}
		}
	}
}

// TestA7CrashInSet lets the power go off while slots get out, and are built anew.
func TestA7CrashInSet(t *testing.T) {
	t.Parallel()
	steps := []func(a *array.Array) api.Errno{
		func(a *array.Array) api.Errno { return a.Set(1, api.SlotOut, 0) },
		func(a *array.Array) api.Errno { return a.Set(1, api.SlotBuilding, 0) },
		change,
		func(a *array.Array) api.Errno { return a.Patch(0, []int{1}) },
		func(a *array.Array) api.Errno { return a.Set(1, api.SlotBuilding, 1) },
	}
	for at, step := range steps {
		for n := 1; ; n++ {
			done := false
			for seed := range 6 {
				k, a := written(t)
				for _, earlier := range steps[:at] {
					want(t, earlier(a), api.OK)
				}
				was := content(before)
				if at > 2 {
					was = content(after)
				}
				k.Arm(n)
				e := step(a)
				done = e == api.OK
				k.Restart(choices(seed))
				a = mount(t, k)
				wantOneOf(t, a, was, content(after), at, n, seed)
				if at != 2 {
					wantOneOf(t, a, was, was, at, n, seed)
				}
				if l := a.Label(); at > 1 && l.States[1] != api.SlotBuilding || at == 4 && done && l.Cursors[1] != 1 {
					t.Fatal("what was built is forgotten", at, n, seed, l)
				}
				// What was built or not: the rest can lose nothing more, but with the slot in again it could.
				if a.Label().States[1] == api.SlotBuilding {
					for stripe := range geo.Stripes(g) {
						want(t, a.Patch(stripe, []int{1}), api.OK)
					}
					want(t, a.Set(1, api.SlotIn, 0), api.OK)
				}
				if a.Label().States[1] == api.SlotIn {
					k.Fail(seed % 3)
					a = mount(t, k)
					wantOneOf(t, a, was, content(after), at, n, seed)
				}
			}
			if done {
				break
			}
		}
	}
}

// TestA7TooManyLosses has more losses than the array can bear: each block is right, or it is not there.
func TestA7TooManyLosses(t *testing.T) {
	t.Parallel()
	for first := range 6 {
		for second := range 6 {
			for _, remount := range []bool{false, true} {
				k, a := written(t)
				loss(k, first, 0)
				loss(k, second, 2)
				if remount {
					b, e := array.Mount(k, id)
					if e != api.OK {
						if e != api.ErrArrayFailed && e != api.ErrArrayNone {
							t.Fatal(first, second, e)
						}
						continue
					}
					a = b
				}
				for n := range g.Blocks {
					s, e := a.Read(n)
					if e == api.OK && s != content(before)(n) || e != api.OK && (e != api.ErrArrayFailed || s != "") {
						t.Fatal(first, second, n, e)
					}
				}
				if e := change(a); e != api.OK && e != api.ErrArrayFailed {
					t.Fatal(first, second, e)
				}
			}
		}
	}
}
