package slots_test

import (
	"math"
	"slices"
	"strings"
	"testing"

	"stave/api"
	"stave/rack"
	"stave/sector"
	"stave/slots"
)

var g = api.Geometry{K: 2, M: 1, Blocks: 9}

func TestFits(t *testing.T) {
	for i, x := range []struct {
		slots, sectors, id int
		g                  api.Geometry
		want               bool
	}{
		{3, 73, 1, g, true}, {3, 73, 65535, g, true}, {3, 256, 1, g, true},
		{3, 72, 1, g, false}, {2, 73, 1, g, false}, {4, 73, 1, g, false}, {3, 73, 0, g, false}, {3, 73, -1, g, false}, {3, 73, 65536, g, false},
		{3, 73, 1, api.Geometry{}, false}, {3, 73, 1, api.Geometry{K: 2, M: 1, Blocks: 7}, false},
	} {
		k, _ := rack.New(x.slots, x.sectors)
		if slots.Fits(k, x.id, x.g) != x.want {
			t.Error(i)
		}
	}
	if slots.Fits(nil, 1, g) {
		t.Error("nil")
	}
}

func TestRight(t *testing.T) {
	for i, x := range []struct {
		list []int
		n    int
		want bool
	}{
		{nil, 3, true}, {[]int{0}, 1, true}, {[]int{2, 0, 1}, 3, true}, {[]int{0, 0}, 3, false}, {[]int{1, 2, 1}, 3, false}, {[]int{3}, 3, false}, {[]int{-1}, 3, false}, {[]int{math.MaxInt}, 3, false}, {[]int{0}, 0, false},
	} {
		if slots.Right(x.list, x.n) != x.want {
			t.Error(i)
		}
	}
}

func TestEach(t *testing.T) {
	answers := map[int]api.Errno{1: api.ErrMemberDead, 4: api.ErrMemberDead}
	var done []int
	do := func(slot int) api.Errno {
		done = append(done, slot)
		return answers[slot]
	}
	if lost, e := slots.Each([]int{4, 2, 1, 0}, do); e != api.OK || !slices.Equal(lost, []int{4, 1}) || !slices.Equal(done, []int{4, 2, 1, 0}) {
		t.Error(lost, e, done)
	}
	answers[2], done = api.ErrRackPower, nil
	if lost, e := slots.Each([]int{4, 2, 1, 0}, do); e != api.ErrRackPower || len(lost) != 0 || !slices.Equal(done, []int{4, 2}) {
		t.Error(lost, e, done)
	}
}

func TestReadAndWrite(t *testing.T) {
	k, _ := rack.New(2, 10)
	if e := slots.Write(k, 7, 1, 4, "a", "b"); e != api.OK || k.Acts() != 2 {
		t.Error(e, k.Acts())
	}
	for i, want := range []string{"a", "b"} {
		if got, ok := slots.Read(k, 7, 1, 4+i); !ok || got != want+strings.Repeat("\x00", 119) {
			t.Errorf("%q %v", got, ok)
		}
		sealed, _ := sector.Seal(7, 1, 4+i, want)
		if got, _ := k.Read(1, 4+i); got != sealed {
			t.Error(i)
		}
	}
	for _, x := range [][3]int{{8, 1, 4}, {7, 0, 4}, {7, 1, 6}, {7, 1, 10}, {7, 2, 4}} {
		if got, ok := slots.Read(k, x[0], x[1], x[2]); ok || got != "" {
			t.Error(x)
		}
	}
	if e := slots.Write(k, 0, 1, 4, "a"); e != api.ErrSectorForm || k.Acts() != 2 {
		t.Error(e)
	}
	k.Arm(2)
	if e := slots.Write(k, 7, 0, 0, "a", "b", "c"); e != api.ErrRackPower || k.Acts() != 4 {
		t.Error(e, k.Acts())
	}
	k.Restart(nil)
	k.Fail(1)
	if e := slots.Write(k, 7, 1, 0, "a", "b"); e != api.ErrMemberDead || k.Acts() != 5 {
		t.Error(e, k.Acts())
	}
}
