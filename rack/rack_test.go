package rack_test

import (
	"math"
	"slices"
	"strings"
	"testing"

	"stave/api"
	"stave/rack"
)

func fresh(t *testing.T, slots, sectors int) *rack.Rack {
	t.Helper()
	k, e := rack.New(slots, sectors)
	if e != api.OK || k == nil {
		t.Fatal("New", slots, sectors, e)
	}
	return k
}

func full(c string) string { return strings.Repeat(c, 128) }

var zero = full("\x00")

func want(t *testing.T, got, want api.Errno) {
	t.Helper()
	if got != want {
		t.Fatal(got, "and not", want)
	}
}

func wantRead(t *testing.T, k *rack.Rack, slot, n int, content string) {
	t.Helper()
	if got, e := k.Read(slot, n); e != api.OK || got != content {
		t.Fatalf("Read %d %d: %.4q.. %d, not %.4q..", slot, n, got, e, content)
	}
}

func wantNoRead(t *testing.T, k *rack.Rack, slot, n int, e api.Errno) {
	t.Helper()
	if got, f := k.Read(slot, n); got != "" || f != e {
		t.Fatal("Read", slot, n, f, "and not", e)
	}
}

func TestK1New(t *testing.T) {
	for _, x := range [][2]int{{0, 4}, {-1, 4}, {8, 4}, {2, 0}, {2, -1}, {2, 257}, {math.MaxInt, math.MaxInt}, {math.MinInt, 4}, {2, math.MinInt}, {0, 0}} {
		if k, e := rack.New(x[0], x[1]); k != nil || e != api.ErrArg {
			t.Error(x, e)
		}
	}
	for _, x := range [][2]int{{1, 1}, {7, 256}, {3, 73}} {
		k := fresh(t, x[0], x[1])
		if k.Slots() != x[0] || k.Sectors() != x[1] || k.Acts() != 0 || k.Off() {
			t.Error(x, k.Slots(), k.Sectors(), k.Acts(), k.Off())
		}
		for slot := range x[0] {
			if !k.Alive(slot) || k.Pending(slot) != 0 || len(k.Image(slot)) != x[1] {
				t.Error(x, slot)
			}
			wantRead(t, k, slot, x[1]-1, zero)
		}
	}
}

func TestK2Operations(t *testing.T) {
	k := fresh(t, 3, 4)
	want(t, k.Write(1, 2, full("A")), api.OK)
	wantRead(t, k, 1, 2, full("A"))
	wantRead(t, k, 0, 2, zero)
	if k.Image(1)[2] != zero || k.Pending(1) != 1 || k.Acts() != 1 {
		t.Error("pending", k.Pending(1), k.Acts())
	}
	want(t, k.Flush(1), api.OK)
	if k.Image(1)[2] != full("A") || k.Pending(1) != 0 || k.Acts() != 2 {
		t.Error("flushed", k.Pending(1), k.Acts())
	}
	// What a member refuses is an action; what has no slot is none, and reads are none.
	want(t, k.Write(1, 4, full("A")), api.ErrMemberRange)
	want(t, k.Write(1, 0, "A"), api.ErrMemberRange)
	wantNoRead(t, k, 1, 4, api.ErrMemberRange)
	wantNoRead(t, k, 1, -1, api.ErrMemberRange)
	k.Fail(2)
	want(t, k.Write(2, 0, full("A")), api.ErrMemberDead)
	want(t, k.Write(2, 9, "A"), api.ErrMemberDead)
	want(t, k.Flush(2), api.ErrMemberDead)
	wantNoRead(t, k, 2, 9, api.ErrMemberDead)
	if k.Acts() != 7 {
		t.Error("acts", k.Acts())
	}
	for _, slot := range []int{-1, 3, math.MaxInt, math.MinInt} {
		want(t, k.Write(slot, 0, full("A")), api.ErrRackSlot)
		want(t, k.Flush(slot), api.ErrRackSlot)
		wantNoRead(t, k, slot, 0, api.ErrRackSlot)
	}
	if k.Acts() != 7 || k.Off() {
		t.Error("acts", k.Acts(), k.Off())
	}
}

func TestK3Example(t *testing.T) {
	k := fresh(t, 2, 4)
	want(t, k.Arm(2), api.OK)
	want(t, k.Write(0, 0, full("A")), api.OK)
	if k.Off() {
		t.Error("off too early")
	}
	want(t, k.Write(1, 0, full("A")), api.ErrRackPower)
	if !k.Off() || k.Acts() != 2 {
		t.Error("off", k.Off(), k.Acts())
	}
	wantNoRead(t, k, 0, 0, api.ErrRackPower)
	wantNoRead(t, k, 0, 99, api.ErrRackPower)
	wantNoRead(t, k, 2, 0, api.ErrRackSlot)
	want(t, k.Write(0, 1, full("B")), api.ErrRackPower)
	want(t, k.Flush(0), api.ErrRackPower)
	want(t, k.Write(2, 1, full("B")), api.ErrRackSlot)
	want(t, k.Flush(-1), api.ErrRackSlot)
	k.Restart([][]int{{1}})
	wantRead(t, k, 0, 0, full("A"))
	wantRead(t, k, 0, 1, zero)
	wantRead(t, k, 1, 0, zero)
	wantNoRead(t, k, 2, 0, api.ErrRackSlot)
	if k.Acts() != 2 || k.Off() || k.Pending(0) != 0 || k.Image(0)[0] != full("A") {
		t.Error("after the restart", k.Acts(), k.Off())
	}
}

func TestK3Arm(t *testing.T) {
	for _, n := range []int{-1, math.MinInt, 1<<40 + 1, math.MaxInt} {
		k := fresh(t, 1, 4)
		k.Arm(2)
		want(t, k.Arm(n), api.ErrArg)
		want(t, k.Flush(0), api.OK)
		want(t, k.Flush(0), api.ErrRackPower)
	}
	k := fresh(t, 1, 4)
	want(t, k.Arm(1<<40), api.OK)
	want(t, k.Flush(0), api.OK)
	k.Arm(2)
	want(t, k.Arm(3), api.OK)
	want(t, k.Write(0, 9, ""), api.ErrMemberRange)
	want(t, k.Write(5, 0, full("A")), api.ErrRackSlot)
	k.Read(0, 0)
	want(t, k.Flush(0), api.OK)
	want(t, k.Flush(0), api.ErrRackPower)
	k.Restart(nil)
	for range 5 {
		want(t, k.Flush(0), api.OK)
	}
	k.Arm(2)
	want(t, k.Arm(0), api.OK)
	for range 5 {
		want(t, k.Flush(0), api.OK)
	}
	k.Arm(2)
	k.Restart(nil) // the power was on: it crashes all the same, and is not armed
	for range 5 {
		want(t, k.Flush(0), api.OK)
	}
	k.Arm(1)
	want(t, k.Flush(0), api.ErrRackPower)
	want(t, k.Arm(2), api.OK)
	want(t, k.Flush(0), api.ErrRackPower)
	k.Restart(nil)
	for range 5 {
		want(t, k.Flush(0), api.OK)
	}
	k.Fail(0)
	k.Arm(1)
	want(t, k.Flush(0), api.ErrRackPower)
}

func TestK3Restart(t *testing.T) {
	k := fresh(t, 3, 4)
	for slot := range 3 {
		want(t, k.Write(slot, 1, full("A")), api.OK)
		want(t, k.Write(slot, 1, full("B")), api.OK)
		want(t, k.Write(slot, 3, full("C")), api.OK)
	}
	choices := [][]int{{2, 0}, {1, 1}}
	k.Restart(choices)
	wantRead(t, k, 0, 1, full("B"))
	wantRead(t, k, 0, 3, zero)
	wantRead(t, k, 1, 1, full("A"))
	wantRead(t, k, 1, 3, full("C"))
	wantRead(t, k, 2, 1, zero)
	wantRead(t, k, 2, 3, zero)
	for slot := range 3 {
		if k.Pending(slot) != 0 {
			t.Error("pending", slot)
		}
	}
	if !slices.Equal(choices[0], []int{2, 0}) || !slices.Equal(choices[1], []int{1, 1}) {
		t.Error("choices changed")
	}
	k.Write(0, 0, full("Z"))
	k.Restart([][]int{{1}, {1}, {1}, {1}, {1}})
	wantRead(t, k, 0, 0, full("Z"))
}

func TestK4MembersOfSlots(t *testing.T) {
	k := fresh(t, 2, 4)
	k.Write(1, 1, full("A"))
	k.Flush(1)
	k.Write(1, 2, full("B"))
	k.Write(1, 2, full("C"))
	k.Write(1, 3, full("C"))
	k.Write(0, 0, full("D"))
	if k.Pending(1) != 2 || k.Pending(0) != 1 {
		t.Error("Pending", k.Pending(1))
	}
	if k.Rot(1, 2, 0, 1) || k.Rot(1, 9, 0, 1) || k.Rot(1, 1, 0, 0) || k.Rot(2, 1, 0, 1) || k.Rot(-1, 1, 0, 1) {
		t.Error("Rot of what is not there")
	}
	if !k.Rot(1, 1, 0, 3) || k.Image(1)[1] != "B"+full("A")[1:] {
		t.Errorf("Rot %q", k.Image(1)[1])
	}
	for _, slot := range []int{-1, 2, math.MaxInt, math.MinInt} {
		if k.Fail(slot) || k.Blank(slot) || k.Alive(slot) || len(k.Image(slot)) != 0 || k.Pending(slot) != 0 {
			t.Error(slot)
		}
	}
	k.Arm(1)
	k.Flush(0)
	if !k.Off() || k.Pending(1) != 2 {
		t.Error("the power should be off")
	}
	if !k.Rot(1, 1, 0, 3) || k.Image(1)[1] != full("A") {
		t.Error("Rot without power")
	}
	if !k.Fail(1) || k.Alive(1) || len(k.Image(1)) != 0 || k.Pending(1) != 0 || k.Rot(1, 1, 0, 1) || !k.Alive(0) {
		t.Error("Fail without power")
	}
	if !k.Fail(1) || !k.Blank(1) || !k.Alive(1) || k.Image(1)[1] != zero {
		t.Error("Blank without power")
	}
	if !k.Off() || k.Acts() != 7 {
		t.Error("neither is an action, nor turns the power on", k.Off(), k.Acts())
	}
	image := k.Image(0)
	image[0] = "x"
	if k.Image(0)[0] != zero {
		t.Error("Image is not new memory")
	}
}

func TestK5Independence(t *testing.T) {
	k, other := fresh(t, 3, 4), fresh(t, 3, 4)
	for slot := range 3 {
		k.Write(slot, 0, full(string(rune('a'+slot))))
		k.Flush(slot)
	}
	k.Fail(1)
	k.Write(2, 0, full("z"))
	wantRead(t, k, 0, 0, full("a"))
	wantRead(t, k, 2, 0, full("z"))
	k.Arm(1)
	want(t, k.Write(0, 0, full("y")), api.ErrRackPower)
	before := k.Image(0)
	k.Write(0, 1, full("y"))
	k.Flush(2)
	if !slices.Equal(before, k.Image(0)) || k.Pending(0) != 0 || k.Pending(2) != 1 {
		t.Error("written without power")
	}
	k.Restart(nil)
	wantRead(t, k, 0, 0, full("a"))
	wantRead(t, k, 2, 0, full("c"))
	for slot := range 3 {
		wantRead(t, other, slot, 0, zero)
	}
	if other.Off() || other.Acts() != 0 || !other.Alive(1) {
		t.Error("racks are not independent")
	}
}
