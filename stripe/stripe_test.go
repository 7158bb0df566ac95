package stripe_test

import (
	"math"
	"slices"
	"strings"
	"testing"

	"stave/api"
	"stave/geo"
	"stave/rack"
	"stave/rs"
	"stave/sector"
	"stave/stripe"
)

const id = 515

var g = api.Geometry{K: 2, M: 1, Blocks: 9}

func fresh(t *testing.T, g api.Geometry) *rack.Rack {
	t.Helper()
	k, e := rack.New(geo.Slots(g), geo.Sectors(g))
	if e != api.OK {
		t.Fatal(e)
	}
	return k
}

func of(g api.Geometry, n, seed int) api.Stripe {
	s := api.Stripe{N: n}
	for i := range g.K {
		s.Data = append(s.Data, strings.Repeat(string([]byte{byte(n), byte(seed), byte(i + 1)}), 40))
	}
	return s
}

func every(g api.Geometry) []int {
	var l []int
	for slot := range geo.Slots(g) {
		l = append(l, slot)
	}
	return l
}

func write(t *testing.T, k *rack.Rack, g api.Geometry, list []int, s api.Stripe) {
	t.Helper()
	if lost, e := stripe.Write(k, id, g, list, s); e != api.OK || len(lost) != 0 {
		t.Fatal("Write", lost, e)
	}
}

func wantRead(t *testing.T, k *rack.Rack, g api.Geometry, list []int, want api.Stripe, bad ...int) {
	t.Helper()
	data, got, e := stripe.Read(k, id, g, list, want.N)
	if e != api.OK || !slices.Equal(data, want.Data) || !slices.Equal(got, bad) {
		t.Fatal("Read", want.N, got, e)
	}
}

func wantLost(t *testing.T, k *rack.Rack, g api.Geometry, list []int, n int, bad ...int) {
	t.Helper()
	data, got, e := stripe.Read(k, id, g, list, n)
	if e != api.ErrStripeLost || len(data) != 0 || !slices.Equal(got, bad) {
		t.Fatal("Read", n, got, e)
	}
}

func damage(t *testing.T, k *rack.Rack, g api.Geometry, slot, n int) {
	t.Helper()
	k.Flush(slot)
	if !k.Rot(slot, geo.Sector(g, n), 7, 2) {
		t.Fatal("Rot")
	}
}

func TestT1Read(t *testing.T) {
	k := fresh(t, g)
	s := of(g, 3, 1)
	write(t, k, g, []int{0, 1, 2}, s)
	wantRead(t, k, g, []int{0, 1, 2}, s)
	wantRead(t, k, g, []int{2, 1}, s)
	wantRead(t, k, g, []int{0, 2}, s)
	wantLost(t, k, g, []int{1}, 3)
	wantLost(t, k, g, nil, 3)
	damage(t, k, g, 1, 3)
	wantRead(t, k, g, []int{2, 1, 0}, s, 1)
	wantRead(t, k, g, []int{2, 0}, s)
	wantLost(t, k, g, []int{1, 0}, 3, 1)
	k.Fail(2)
	wantLost(t, k, g, []int{2, 0, 1}, 3, 2, 1)
	k.Blank(2)
	wantLost(t, k, g, []int{0, 1, 2}, 3, 1, 2)
	wantLost(t, k, g, []int{2, 1, 0}, 4, 2, 1, 0)
	k.Arm(1)
	k.Flush(0)
	if data, bad, e := stripe.Read(k, id, g, []int{0, 1, 2}, 3); e != api.ErrRackPower || len(data) != 0 || len(bad) != 0 {
		t.Error("without power", bad, e)
	}
}

func TestT1Identity(t *testing.T) {
	k := fresh(t, g)
	s := of(g, 3, 1)
	write(t, k, g, []int{0, 1, 2}, s)
	if data, bad, e := stripe.Read(k, id+1, g, []int{0, 1, 2}, 3); e != api.ErrStripeLost || len(data) != 0 || !slices.Equal(bad, []int{0, 1, 2}) {
		t.Error("another array", bad, e)
	}
	// A shard that stands in another slot is not good there.
	other, _ := k.Read(0, geo.Sector(g, 3))
	k.Write(1, geo.Sector(g, 3), other)
	wantRead(t, k, g, []int{0, 1, 2}, s, 1)
}

func TestT2Write(t *testing.T) {
	for _, g := range []api.Geometry{g, {K: 1, M: 1, Blocks: 8}, {K: 4, M: 3, Blocks: 200}, {K: 3, M: 2, Blocks: 10}} {
		for n := range min(geo.Stripes(g), 12) {
			k := fresh(t, g)
			s := of(g, n, 5)
			parity, _ := rs.Encode(s.Data, g.M)
			shards := slices.Concat(s.Data, parity)
			write(t, k, g, every(g), s)
			if k.Acts() != geo.Slots(g) {
				t.Error("actions", k.Acts())
			}
			for slot := range geo.Slots(g) {
				if k.Pending(slot) != 1 {
					t.Error("pending", slot, k.Pending(slot))
				}
				want, _ := sector.Seal(id, slot, geo.Sector(g, n), shards[(slot-n%geo.Slots(g)+geo.Slots(g))%geo.Slots(g)])
				if got, e := k.Read(slot, geo.Sector(g, n)); e != api.OK || got != want {
					t.Fatal(g, n, slot, e)
				}
			}
		}
	}
}

func TestT2OrderAndLosses(t *testing.T) {
	s := of(g, 3, 1)
	list := []int{2, 0, 1}
	for n := 1; n <= 3; n++ {
		k := fresh(t, g)
		k.Arm(n)
		if lost, e := stripe.Write(k, id, g, list, s); e != api.ErrRackPower || len(lost) != 0 || k.Acts() != n {
			t.Error(n, lost, e, k.Acts())
		}
		for i, slot := range list {
			if (k.Pending(slot) == 1) != (i < n-1) {
				t.Error("order", n, slot)
			}
		}
	}
	k := fresh(t, g)
	write(t, k, g, []int{1}, s)
	if k.Pending(0) != 0 || k.Pending(1) != 1 || k.Pending(2) != 0 {
		t.Error("one slot")
	}
	write(t, k, g, nil, s)
	k.Fail(0)
	k.Fail(2)
	acts := k.Acts()
	if lost, e := stripe.Write(k, id, g, list, s); e != api.OK || !slices.Equal(lost, []int{2, 0}) || k.Acts() != acts+3 {
		t.Error(lost, e, k.Acts())
	}
	if lost, e := stripe.Flush(k, list); e != api.OK || !slices.Equal(lost, []int{2, 0}) || k.Acts() != acts+6 || k.Pending(1) != 0 {
		t.Error(lost, e, k.Acts())
	}
	k.Arm(2)
	if lost, e := stripe.Write(k, id, g, list, s); e != api.ErrRackPower || len(lost) != 0 {
		t.Error(lost, e)
	}
}

func TestT3Flush(t *testing.T) {
	list := []int{2, 0, 1}
	for n := 1; n <= 4; n++ {
		k := fresh(t, g)
		write(t, k, g, list, of(g, 0, 1))
		k.Arm(n)
		lost, e := stripe.Flush(k, list)
		if len(lost) != 0 || (e == api.ErrRackPower) != (n < 4) || e != api.OK && e != api.ErrRackPower {
			t.Error(n, lost, e)
		}
		for i, slot := range list {
			if (k.Pending(slot) == 0) != (i < n-1) {
				t.Error("order", n, slot)
			}
		}
	}
	k := fresh(t, g)
	write(t, k, g, list, of(g, 0, 1))
	if lost, e := stripe.Flush(k, []int{1}); e != api.OK || len(lost) != 0 || k.Pending(1) != 0 || k.Pending(0) != 1 {
		t.Error(lost, e)
	}
	if lost, e := stripe.Flush(k, nil); e != api.OK || len(lost) != 0 || k.Acts() != 4 {
		t.Error(lost, e)
	}
	for i, list := range [][]int{{3}, {-1}, {0, 0}, {1, 2, 1}, {math.MinInt}} {
		if lost, e := stripe.Flush(k, list); e != api.ErrArg || len(lost) != 0 {
			t.Error(i, lost, e)
		}
	}
	if lost, e := stripe.Flush(nil, nil); e != api.ErrArg || len(lost) != 0 {
		t.Error("nil", lost, e)
	}
	if k.Acts() != 4 {
		t.Error("actions", k.Acts())
	}
}

func TestErrors(t *testing.T) {
	k := fresh(t, g)
	small, _ := rack.New(3, geo.Sectors(g)-1)
	many, _ := rack.New(4, 256)
	for i, x := range []struct {
		k    *rack.Rack
		id   int
		g    api.Geometry
		list []int
		n    int
	}{
		{nil, id, g, nil, 0}, {small, id, g, nil, 0}, {many, id, g, nil, 0}, {k, 0, g, nil, 0}, {k, 65536, g, nil, 0}, {k, id, api.Geometry{}, nil, 0}, {k, id, g, []int{0, 0}, 0}, {k, id, g, []int{3}, 0}, {k, id, g, []int{-1}, 0},
		{k, id, g, []int{0}, -1}, {k, id, g, []int{0}, 5}, {k, id, g, []int{0}, math.MaxInt}, {k, id, g, []int{0}, math.MinInt},
	} {
		if data, bad, e := stripe.Read(x.k, x.id, x.g, x.list, x.n); e != api.ErrArg || len(data) != 0 || len(bad) != 0 {
			t.Error("Read", i, e)
		}
		s := of(g, x.n, 1)
		s.Data = s.Data[:1] // which is wrong too
		if lost, e := stripe.Write(x.k, x.id, x.g, x.list, s); e != api.ErrArg || len(lost) != 0 {
			t.Error("Write", i, e)
		}
	}
	good := of(g, 0, 1).Data
	for i, data := range [][]string{nil, good[:1], {good[0], good[1], good[0]}, {good[0], good[1] + "x"}, {good[0][1:], good[1]}, {good[0][1:], good[1][1:]}, {"", ""}} {
		if lost, e := stripe.Write(k, id, g, []int{0, 1, 2}, api.Stripe{N: 0, Data: data}); e != api.ErrRecordForm || len(lost) != 0 {
			t.Error(i, e)
		}
	}
	if k.Acts() != 0 {
		t.Error("actions", k.Acts())
	}
	k.Arm(1)
	k.Flush(0)
	if _, e := stripe.Write(k, id, g, []int{0}, api.Stripe{}); e != api.ErrRecordForm {
		t.Error("the data first", e)
	}
	if _, e := stripe.Write(k, id, g, []int{0}, of(g, 0, 1)); e != api.ErrRackPower {
		t.Error("without power", e)
	}
	if _, e := stripe.Flush(k, []int{0}); e != api.ErrRackPower {
		t.Error("without power", e)
	}
	if _, _, e := stripe.Read(k, id, g, []int{0, 0}, 0); e != api.ErrArg {
		t.Error("arguments first", e)
	}
}

func TestT4AnyLosses(t *testing.T) {
	for _, g := range []api.Geometry{g, {K: 3, M: 2, Blocks: 20}, {K: 1, M: 3, Blocks: 8}, {K: 4, M: 3, Blocks: 30}} {
		slots := geo.Slots(g)
		for set := range 1 << slots {
			k := fresh(t, g)
			first, second := of(g, 1, 1), of(g, 2, 2)
			write(t, k, g, every(g), first)
			write(t, k, g, every(g), second)
			var bad, gone []int // of the first stripe, and of the second one
			for slot := range slots {
				if set>>slot&1 == 0 {
					continue
				}
				bad = append(bad, slot)
				switch (set + slot) % 3 {
				case 0:
					k.Fail(slot)
				case 1:
					k.Blank(slot)
				default:
					damage(t, k, g, slot, 1)
					continue
				}
				gone = append(gone, slot)
			}
			for _, x := range []struct {
				s   api.Stripe
				bad []int
			}{{first, bad}, {second, gone}} {
				if len(x.bad) <= g.M {
					wantRead(t, k, g, every(g), x.s, x.bad...)
				} else {
					wantLost(t, k, g, every(g), x.s.N, x.bad...)
				}
			}
		}
	}
	k := fresh(t, g)
	write(t, k, g, every(g), of(g, 1, 1))
	write(t, k, g, every(g), of(g, 2, 1))
	damage(t, k, g, 0, 1)
	damage(t, k, g, 1, 1)
	wantLost(t, k, g, every(g), 1, 0, 1)
	wantRead(t, k, g, every(g), of(g, 2, 1))
	write(t, k, g, every(g), of(g, 1, 9))
	wantRead(t, k, g, every(g), of(g, 1, 9))
	wantRead(t, k, g, every(g), of(g, 2, 1))
}

func TestArgumentsAreNotModified(t *testing.T) {
	k := fresh(t, g)
	list := []int{2, 0, 1, 7}[:3]
	s := of(g, 3, 1)
	s.Data = append(s.Data, "behind")[:2]
	write(t, k, g, list, s)
	if !slices.Equal(list[:4], []int{2, 0, 1, 7}) || !slices.Equal(s.Data[:3], append(of(g, 3, 1).Data, "behind")) {
		t.Error("changed", list[:4])
	}
	data, _, _ := stripe.Read(k, id, g, list, 3)
	data[0] = "x"
	wantRead(t, k, g, list, of(g, 3, 1))
}
