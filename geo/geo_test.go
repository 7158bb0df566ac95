package geo_test

import (
	"math"
	"testing"

	"stave/api"
	"stave/geo"
)

// valid visits all valid geometries.
func valid(visit func(g api.Geometry)) {
	for k := 1; k <= 4; k++ {
		for m := 1; m <= 3; m++ {
			for blocks := 8; blocks <= 200; blocks++ {
				visit(api.Geometry{K: k, M: m, Blocks: blocks})
			}
		}
	}
}

func wrong() []api.Geometry {
	return []api.Geometry{{}, {K: 0, M: 1, Blocks: 8}, {K: -1, M: 1, Blocks: 8}, {K: 5, M: 1, Blocks: 8}, {K: 1, M: 0, Blocks: 8}, {K: 1, M: -1, Blocks: 8}, {K: 1, M: 4, Blocks: 8},
		{K: 1, M: 1, Blocks: 7}, {K: 1, M: 1, Blocks: 201}, {K: 1, M: 1, Blocks: -8}, {K: math.MaxInt, M: math.MaxInt, Blocks: math.MaxInt}, {K: math.MinInt, M: math.MinInt, Blocks: math.MinInt}, {K: 2, M: 1}, {K: 2, Blocks: 9}, {M: 1, Blocks: 9}}
}

var example = api.Geometry{K: 2, M: 1, Blocks: 9}

func TestQ1Sizes(t *testing.T) {
	if geo.Slots(example) != 3 || geo.Stripes(example) != 5 || geo.Body(example) != 32 || geo.Sectors(example) != 73 {
		t.Error("example", geo.Slots(example), geo.Stripes(example), geo.Body(example), geo.Sectors(example))
	}
	valid(func(g api.Geometry) {
		stripes := g.Blocks / g.K
		if g.Blocks%g.K > 0 {
			stripes++
		}
		if !geo.Right(g) || geo.Slots(g) != g.K+g.M || geo.Stripes(g) != stripes || geo.Body(g) != 16*g.K || geo.Sectors(g) != 4+32*g.K+stripes {
			t.Fatal(g)
		}
		if geo.Sectors(g) > api.MaxSectors {
			t.Fatal("too great for a member", g)
		}
	})
	for _, g := range wrong() {
		if geo.Right(g) || geo.Slots(g) != 0 || geo.Stripes(g) != 0 || geo.Body(g) != 0 || geo.Sectors(g) != 0 {
			t.Error(g)
		}
	}
}

func TestQ2Of(t *testing.T) {
	if p, e := geo.Of(example, 3); e != api.OK || p != (api.Place{Stripe: 1, Index: 1, Slot: 2, Sector: 69}) {
		t.Error(p, e)
	}
	valid(func(g api.Geometry) {
		for block := range g.Blocks {
			want := api.Place{Stripe: block / g.K, Index: block % g.K}
			want.Slot = (want.Stripe + want.Index) % (g.K + g.M)
			want.Sector = 4 + 32*g.K + want.Stripe
			if p, e := geo.Of(g, block); e != api.OK || p != want {
				t.Fatal(g, block, p, e)
			}
		}
		for _, block := range []int{-1, g.Blocks, math.MinInt, math.MaxInt} {
			if p, e := geo.Of(g, block); e != api.ErrGeoRange || p != (api.Place{}) {
				t.Fatal(g, block, p, e)
			}
		}
	})
	for _, g := range wrong() {
		for _, block := range []int{0, -1, 1000} {
			if p, e := geo.Of(g, block); e != api.ErrGeoForm || p != (api.Place{}) {
				t.Error(g, block, p, e)
			}
		}
	}
}

func TestQ3SlotsAndIndexes(t *testing.T) {
	odd := []int{math.MinInt, -1, math.MaxInt}
	valid(func(g api.Geometry) {
		n, stripes := g.K+g.M, geo.Stripes(g)
		for _, stripe := range append([]int{0, 1, stripes / 2, stripes - 1, stripes}, odd...) {
			good := stripe >= 0 && stripe < stripes
			for _, index := range append([]int{0, 1, 2, 3, 4, 5, 6, 7}, odd...) {
				want := -1
				if good && index >= 0 && index < n {
					want = (index + stripe) % n
					if geo.Index(g, stripe, want) != index {
						t.Fatal("Index", g, stripe, want)
					}
				} else if geo.Index(g, stripe, index) != -1 {
					t.Fatal("Index", g, stripe, index)
				}
				if geo.Slot(g, stripe, index) != want {
					t.Fatal("Slot", g, stripe, index)
				}
				block, has := geo.Block(g, stripe, index)
				if there := want >= 0 && index < g.K && stripe*g.K+index < g.Blocks; has != there || has && block != stripe*g.K+index || !has && block != 0 {
					t.Fatal("Block", g, stripe, index, block, has)
				}
			}
			want := -1
			if good {
				want = 4 + 32*g.K + stripe
			}
			if geo.Sector(g, stripe) != want {
				t.Fatal("Sector", g, stripe)
			}
		}
	})
	if b, ok := geo.Block(example, 4, 1); ok || b != 0 {
		t.Error("there is no block 9", b)
	}
	if b, ok := geo.Block(example, 4, 0); !ok || b != 8 {
		t.Error("block 8", b)
	}
}

func TestQ3Head(t *testing.T) {
	if geo.Head(example, 6) != 2 || geo.Head(example, 7) != 35 {
		t.Error(geo.Head(example, 6), geo.Head(example, 7))
	}
	valid(func(g api.Geometry) {
		for _, seq := range []int{0, 1, 2, 3, 1 << 40, 1<<40 + 1, math.MaxInt, -1, -2, math.MinInt} {
			want := 2
			if seq%2 != 0 {
				want = 3 + 16*g.K
			}
			if seq < 0 {
				want = -1
			}
			if geo.Head(g, seq) != want {
				t.Fatal(g, seq, geo.Head(g, seq))
			}
		}
	})
	for _, g := range wrong() {
		if geo.Head(g, 0) != -1 || geo.Head(g, 1) != -1 || geo.Slot(g, 0, 0) != -1 || geo.Index(g, 0, 0) != -1 || geo.Sector(g, 0) != -1 {
			t.Error(g)
		}
		if b, ok := geo.Block(g, 0, 0); b != 0 || ok {
			t.Error(g, b, ok)
		}
	}
}

func TestQ4Layout(t *testing.T) {
	valid(func(g api.Geometry) {
		taken := map[[2]int]bool{}
		for block := range g.Blocks {
			p, _ := geo.Of(g, block)
			at := [2]int{p.Slot, p.Sector}
			if taken[at] || p.Sector <= geo.Head(g, 1)+geo.Body(g) || p.Sector >= geo.Sectors(g) || p.Slot < 0 || p.Slot >= geo.Slots(g) {
				t.Fatal(g, block, p)
			}
			taken[at] = true
			if back, ok := geo.Block(g, p.Stripe, p.Index); !ok || back != block {
				t.Fatal("Block does not invert Of", g, block, back)
			}
		}
		for stripe := range geo.Stripes(g) {
			seen := 0
			for index := range geo.Slots(g) {
				seen |= 1 << geo.Slot(g, stripe, index)
			}
			if seen != 1<<geo.Slots(g)-1 {
				t.Fatal("shards", g, stripe)
			}
		}
		if geo.Head(g, 0)+geo.Body(g) >= geo.Head(g, 1) {
			t.Fatal("bays overlap", g)
		}
	})
}
