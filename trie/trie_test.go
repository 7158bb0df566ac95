package trie_test

import (
	"maps"
	"math"
	"slices"
	"strings"
	"testing"

	"stave/api"
	"stave/count"
	"stave/trie"
)

// blocks is a source: what is not in it can't be read.
type blocks map[int]string

func (b blocks) Read(n int) (string, api.Errno) {
	s, ok := b[n]
	if !ok {
		return "rubbish", api.ErrGeoRange
	}
	return s, api.OK
}

func pool(t *testing.T, n int, src trie.Source) (*trie.Heap, *count.Table) {
	t.Helper()
	table, e := count.New(n)
	h := trie.New(src, table)
	if e != api.OK || h == nil {
		t.Fatal(e)
	}
	return h, table
}

func alloc(t *testing.T, table *count.Table) int {
	t.Helper()
	b, e := table.Alloc()
	if e != api.OK {
		t.Fatal("Alloc", e)
	}
	return b
}

func set(t *testing.T, h *trie.Heap, root, key, block int) int {
	t.Helper()
	root, e := h.Set(root, key, block)
	if e != api.OK {
		t.Fatal("Set", key, block, e)
	}
	return root
}

func cut(t *testing.T, h *trie.Heap, root, key int) int {
	t.Helper()
	root, e := h.Cut(root, key)
	if e != api.OK {
		t.Fatal("Cut", key, e)
	}
	return root
}

func wantFind(t *testing.T, h *trie.Heap, root, key, want int) {
	t.Helper()
	if b, e := h.Find(root, key); b != want || e != api.OK {
		t.Fatal("Find", root, key, b, e, "and not", want)
	}
}

func wantSole(t *testing.T, h *trie.Heap, root, key, want int, sole bool) {
	t.Helper()
	if b, ok, e := h.Sole(root, key); b != want || ok != sole || e != api.OK {
		t.Fatal("Sole", root, key, b, ok, e, "and not", want, sole)
	}
}

func wantCounts(t *testing.T, table *count.Table, want map[int]int) {
	t.Helper()
	for b := 3; b < table.Blocks(); b++ {
		if table.Count(b) != want[b] {
			t.Fatal("the count of", b, "is", table.Count(b), "and not", want[b])
		}
	}
}

// text is a content that begins with some bytes.
func text(b ...byte) string { return string(b) + strings.Repeat("\x00", 120-len(b)) }

func TestExample(t *testing.T) {
	h, table := pool(t, 12, blocks{})
	first := alloc(t, table)
	root := set(t, h, 0, 0, first)
	if first != 3 || root != 4 {
		t.Fatal(first, root)
	}
	wantCounts(t, table, map[int]int{3: 1, 4: 1, 5: 1, 6: 1})
	wantFind(t, h, 4, 0, 3)
	table.Inc(4)
	second := alloc(t, table)
	if root = set(t, h, 4, 1, second); second != 7 || root != 8 {
		t.Fatal(second, root)
	}
	wantCounts(t, table, map[int]int{3: 2, 4: 1, 5: 1, 6: 1, 7: 1, 8: 1, 9: 1, 10: 1})
	wantFind(t, h, 4, 1, 0)
	wantFind(t, h, 8, 1, 7)
	wantFind(t, h, 8, 0, 3)
	want := []api.Write{{Block: 4, Data: text(5)}, {Block: 5, Data: text(6)}, {Block: 6, Data: text(3)}, {Block: 8, Data: text(9)}, {Block: 9, Data: text(10)}, {Block: 10, Data: text(3, 7)}}
	if got := h.Changed(); !slices.Equal(got, want) {
		t.Errorf("%v", got)
	}
	if e := h.Drop(4); e != api.OK {
		t.Error(e)
	}
	wantCounts(t, table, map[int]int{3: 1, 7: 1, 8: 1, 9: 1, 10: 1})
	if got := h.Changed(); !slices.Equal(got, want[3:]) {
		t.Errorf("%v", got)
	}
}

func TestZ1Heap(t *testing.T) {
	table, _ := count.New(10)
	if trie.New(nil, table) != nil || trie.New(blocks{}, nil) != nil || trie.New(nil, nil) != nil {
		t.Error("New of nothing")
	}
	src := blocks{3: "short", 4: text(9), 1: text(1)}
	h, table := pool(t, 10, src)
	for b, want := range map[int]string{3: "short", 4: text(9), 1: text(1)} {
		if s, e := h.Read(b); s != want || e != api.OK {
			t.Errorf("Read %d: %q %d", b, s, e)
		}
	}
	for _, b := range []int{5, -1, math.MaxInt} {
		if s, e := h.Read(b); s != "" || e != api.ErrGeoRange {
			t.Errorf("Read %d: %q %d", b, s, e)
		}
	}
	alloc(t, table)
	alloc(t, table)
	for i, x := range []struct {
		b int
		s string
		e api.Errno
	}{{5, text(1), api.ErrTrieForm}, {0, text(1), api.ErrTrieForm}, {2, text(1), api.ErrTrieForm}, {-1, text(1), api.ErrTrieForm}, {10, text(1), api.ErrTrieForm}, {math.MaxInt, text(1), api.ErrTrieForm}, {3, "", api.ErrTrieForm}, {3, text(1)[1:], api.ErrTrieForm}, {3, text(1) + "x", api.ErrTrieForm}, {4, text(7), api.OK}, {3, text(8), api.OK}, {3, text(6), api.OK}} {
		if e := h.Put(x.b, x.s); e != x.e {
			t.Error(i, e)
		}
	}
	if s, e := h.Read(3); s != text(6) || e != api.OK {
		t.Errorf("%q %d", s, e)
	}
	if got := h.Changed(); !slices.Equal(got, []api.Write{{Block: 3, Data: text(6)}, {Block: 4, Data: text(7)}}) {
		t.Error(got)
	}
	table.Dec(3)
	if got := h.Changed(); !slices.Equal(got, []api.Write{{Block: 4, Data: text(7)}}) {
		t.Error("one that is not allocated", got)
	}
	if s, e := h.Read(3); s != text(6) || e != api.OK {
		t.Errorf("what was put stays: %q %d", s, e)
	}
	h.Changed()[0].Data = "x"
	if s, _ := h.Read(4); s != text(7) {
		t.Error("Changed is not new memory")
	}
	if src[3] != "short" || src[4] != text(9) {
		t.Error("the source has changed")
	}
	empty, _ := pool(t, 10, blocks{})
	if len(empty.Changed()) != 0 {
		t.Error("changed, but nothing was put")
	}
}

func TestZ2Nodes(t *testing.T) {
	// Blocks 3 to 9 are allocated; 4, 5, 6 are nodes above 3.
	good := func() blocks {
		return blocks{3: text(1, 2), 4: text(0, 5), 5: text(0, 0, 6), 6: text(0, 0, 0, 3), 7: text(0, 0, 4), 8: "", 9: text(0, 9)}
	}
	const key = 256 + 2*16 + 3
	for i, x := range []struct {
		root  int
		spoil func(b blocks)
		e     api.Errno
	}{
		{4, func(b blocks) {}, api.OK},
		{1, func(b blocks) { b[1] = text(0, 5) }, api.ErrTrieForm}, {-1, func(b blocks) { b[-1] = text(0, 5) }, api.ErrTrieForm}, {10, func(b blocks) { b[10] = text(0, 5) }, api.ErrTrieForm}, {math.MaxInt, func(b blocks) {}, api.ErrTrieForm}, {math.MinInt, func(b blocks) {}, api.ErrTrieForm},
		{11, func(b blocks) {}, api.ErrTrieForm}, // neither allocated, nor read by the source
		{4, func(b blocks) { delete(b, 4) }, api.ErrGeoRange}, {4, func(b blocks) { delete(b, 5) }, api.ErrGeoRange}, {4, func(b blocks) { delete(b, 6) }, api.ErrGeoRange}, {4, func(b blocks) { delete(b, 3) }, api.OK},
		{4, func(b blocks) { b[4] = "\x00\x05" }, api.ErrTrieForm}, {4, func(b blocks) { b[4] += "\x00" }, api.ErrTrieForm}, {8, func(b blocks) {}, api.ErrTrieForm},
		{4, func(b blocks) { b[4] = text(0, 5, 10) }, api.ErrTrieForm}, {4, func(b blocks) { b[4] = text(0, 5, 2) }, api.ErrTrieForm}, {4, func(b blocks) { b[4] = text(0, 5, 200) }, api.ErrTrieForm}, {4, func(b blocks) { b[5] = text(0, 0, 6, 255) }, api.ErrTrieForm},
		{4, func(b blocks) { b[4] = b[4][:16] + "\x01" + b[4][17:] }, api.ErrTrieForm}, {4, func(b blocks) { b[6] = b[6][:119] + "\x01" }, api.ErrTrieForm}, {4, func(b blocks) { b[5] = b[5][:16] + "\x03" + b[5][17:] }, api.ErrTrieForm},
		{4, func(b blocks) { b[6] = text(0, 0, 0, 10) }, api.ErrTrieForm},
	} {
		for _, name := range []string{"Find", "Sole", "Pairs", "Clip", "Cut", "Set", "Drop"} {
			src := good()
			x.spoil(src)
			h, table := pool(t, 12, src)
			for range 7 {
				alloc(t, table)
			}
			if got := call(h, name, x.root, key, 9); got != x.e {
				t.Error(i, name, got, "and not", x.e)
			}
		}
	}
}

// call is the error of one of the functions that visit a tree; it is negative if another result comes with it.
func call(h *trie.Heap, name string, root, key, block int) api.Errno {
	check := func(ok bool, e api.Errno) api.Errno {
		if e != api.OK && !ok {
			return -e
		}
		return e
	}
	switch name {
	case "Find":
		b, e := h.Find(root, key)
		return check(b == 0, e)
	case "Sole":
		b, sole, e := h.Sole(root, key)
		return check(b == 0 && !sole, e)
	case "Pairs":
		l, e := h.Pairs(root)
		return check(len(l) == 0, e)
	case "Clip":
		b, e := h.Clip(root, 0)
		return check(b == 0, e)
	case "Cut":
		b, e := h.Cut(root, key)
		return check(b == 0, e)
	case "Set":
		b, e := h.Set(root, key, block)
		return check(b == 0, e)
	}
	return h.Drop(root)
}

func TestZ2Keys(t *testing.T) {
	for _, key := range []int{-1, 4096, math.MaxInt, math.MinInt} {
		for _, name := range []string{"Find", "Sole", "Cut", "Set"} {
			h, table := pool(t, 12, blocks{})
			b := alloc(t, table)
			for _, root := range []int{0, 1} {
				if e := call(h, name, root, key, b); e != api.ErrTrieForm {
					t.Error(name, key, e)
				}
			}
		}
	}
	for _, size := range []int{-1, 4097, math.MaxInt, math.MinInt} {
		h, _ := pool(t, 12, blocks{})
		if root, e := h.Clip(0, size); root != 0 || e != api.ErrTrieForm {
			t.Error("Clip", size, e)
		}
	}
	h, table := pool(t, 60, blocks{})
	b := alloc(t, table)
	root := 0
	for _, key := range []int{0, 4095, 256, 16} {
		table.Inc(b)
		root = set(t, h, root, key, b)
		wantFind(t, h, root, key, b)
	}
	for _, size := range []int{4096, 0} {
		got, e := h.Clip(root, size)
		if e != api.OK || (got == root) != (size == 4096) || (got == 0) != (size == 0) {
			t.Error("Clip", size, got, e)
		}
	}
	for i, b := range []int{0, 1, 2, -1, 12, 60, math.MaxInt} {
		h, _ := pool(t, 60, blocks{})
		if root, e := h.Set(0, 5, b); root != 0 || e != api.ErrTrieForm {
			t.Error("Set of a block that is not allocated", i, e)
		}
	}
}

func TestZ3FindSolePairs(t *testing.T) {
	h, table := pool(t, 100, blocks{})
	wantFind(t, h, 0, 7, 0)
	wantSole(t, h, 0, 7, 0, false)
	if l, e := h.Pairs(0); len(l) != 0 || e != api.OK {
		t.Error(l, e)
	}
	root := 0
	at := map[int]int{}
	for _, key := range []int{4095, 0, 15, 16, 255, 256, 1000, 17} {
		at[key] = alloc(t, table)
		root = set(t, h, root, key, at[key])
	}
	for key := range 4096 {
		wantFind(t, h, root, key, at[key])
		wantSole(t, h, root, key, at[key], at[key] != 0)
	}
	var want []api.Pair
	for _, key := range slices.Sorted(maps.Keys(at)) {
		want = append(want, api.Pair{Key: key, Block: at[key]})
	}
	if l, e := h.Pairs(root); e != api.OK || !slices.Equal(l, want) {
		t.Error(l, e)
	}
	// Another reference to the block, to the lowest node, to the one above, to the root.
	table.Inc(at[16])
	wantSole(t, h, root, 16, at[16], false)
	wantSole(t, h, root, 17, at[17], true)
	table.Dec(at[16])
	wantSole(t, h, root, 16, at[16], true)
	top, _ := h.Read(root)
	middle, _ := h.Read(int(top[0]))
	low := int(middle[1])
	for node, keys := range map[int][]int{root: {4095, 0, 16, 17}, int(top[0]): {0, 16, 17}, low: {16, 17}} {
		table.Inc(node)
		for key, b := range at {
			wantSole(t, h, root, key, b, !slices.Contains(keys, key) && node != root && (node != int(top[0]) || key >= 256))
		}
		wantSole(t, h, root, 3, 0, false)
		table.Dec(node)
	}
}

func TestZ4Set(t *testing.T) {
	src := blocks{}
	h, table := pool(t, 40, src)
	root := 0
	for _, key := range []int{0, 16, 256} {
		root = set(t, h, root, key, alloc(t, table))
	}
	// 3 at 0 below 4, 5, 6; 7 at 16 below 8; 9 at 256 below 10, 11.
	wantCounts(t, table, map[int]int{3: 1, 4: 1, 5: 1, 6: 1, 7: 1, 8: 1, 9: 1, 10: 1, 11: 1})
	for _, w := range h.Changed() {
		src[w.Block] = w.Data
	}
	// In place: only the nodes whose entries change are put.
	h = trie.New(src, table)
	b := alloc(t, table)
	if got := set(t, h, root, 16, b); got != root {
		t.Error("in place", got)
	}
	if got := h.Changed(); !slices.Equal(got, []api.Write{{Block: 8, Data: text(b8(b))}}) {
		t.Error(got)
	}
	wantCounts(t, table, map[int]int{3: 1, 4: 1, 5: 1, 6: 1, 8: 1, 9: 1, 10: 1, 11: 1, 12: 1})
	wantFind(t, h, root, 16, 12)
	// A lower node that somebody else owns too: only it is copied; 7 is free again.
	table.Inc(6)
	if got := set(t, h, root, 1, alloc(t, table)); got != root {
		t.Error("the root", got)
	}
	wantCounts(t, table, map[int]int{3: 2, 4: 1, 5: 1, 6: 1, 7: 1, 8: 1, 9: 1, 10: 1, 11: 1, 12: 1, 13: 1})
	if got := h.Changed(); !slices.Equal(got, []api.Write{{Block: 5, Data: text(13, 8)}, {Block: 8, Data: text(12)}, {Block: 13, Data: text(3, 7)}}) {
		t.Error(got)
	}
	// A middle node that somebody else owns too: it and the one below are copied, in this order.
	table.Inc(5)
	table.Inc(3)
	if got := set(t, h, root, 16, 3); got != root {
		t.Error("the root", got)
	}
	wantCounts(t, table, map[int]int{3: 3, 4: 1, 5: 1, 6: 1, 7: 1, 8: 1, 9: 1, 10: 1, 11: 1, 12: 1, 13: 2, 14: 1, 15: 1})
	wantFind(t, h, root, 16, 3)
	wantFind(t, h, root, 0, 3)
	wantFind(t, h, root, 256, 9)
	// The same block once more: it has one reference less.
	before := h.Changed()
	set(t, h, root, 16, 3)
	wantCounts(t, table, map[int]int{3: 2, 4: 1, 5: 1, 6: 1, 7: 1, 8: 1, 9: 1, 10: 1, 11: 1, 12: 1, 13: 2, 14: 1, 15: 1})
	if !slices.Equal(before, h.Changed()) {
		t.Error("a node without a change is put")
	}
}

func b8(b int) byte { return byte(b) }

func TestZ4Space(t *testing.T) {
	// Set of a new tree takes three blocks.
	for free := range 5 {
		h, table := pool(t, 20, blocks{})
		for table.Free() > free {
			alloc(t, table)
		}
		root, e := h.Set(0, 0, 3)
		if free < 3 && (e != api.ErrCountFull || root != 0) || free >= 3 && e != api.OK {
			t.Error(free, root, e)
		}
	}
	// A count that is 255 already.
	h, table := pool(t, 20, blocks{})
	root := set(t, h, 0, 0, alloc(t, table))
	for range 254 {
		table.Inc(3)
	}
	table.Inc(6)
	if got, e := h.Set(root, 1, alloc(t, table)); got != 0 || e != api.ErrCountMost {
		t.Error(got, e)
	}
}

func TestZ5Cut(t *testing.T) {
	src := blocks{}
	h, table := pool(t, 40, src)
	if got := cut(t, h, 0, 5); got != 0 {
		t.Error(got)
	}
	root := 0
	for _, key := range []int{0, 1, 16, 256} {
		root = set(t, h, root, key, alloc(t, table))
	}
	// 3 at 0 and 7 at 1 below 4, 5, 6; 8 at 16 below 9; 10 at 256 below 11, 12.
	for _, w := range h.Changed() {
		src[w.Block] = w.Data
	}
	h = trie.New(src, table)
	if got := cut(t, h, root, 2); got != root || len(h.Changed()) != 0 {
		t.Error("nothing there", got)
	}
	if got := cut(t, h, root, 1); got != root {
		t.Error(got)
	}
	wantCounts(t, table, map[int]int{3: 1, 4: 1, 5: 1, 6: 1, 8: 1, 9: 1, 10: 1, 11: 1, 12: 1})
	if got := h.Changed(); !slices.Equal(got, []api.Write{{Block: 6, Data: text(3)}}) {
		t.Error(got)
	}
	// A lowest node that gets empty is free, and its entry is 0.
	if got := cut(t, h, root, 0); got != root {
		t.Error(got)
	}
	wantCounts(t, table, map[int]int{4: 1, 5: 1, 8: 1, 9: 1, 10: 1, 11: 1, 12: 1})
	if got := h.Changed(); !slices.Equal(got, []api.Write{{Block: 5, Data: text(0, 9)}}) {
		t.Error(got)
	}
	// Two nodes that get empty.
	if got := cut(t, h, root, 256); got != root {
		t.Error(got)
	}
	wantCounts(t, table, map[int]int{4: 1, 5: 1, 8: 1, 9: 1})
	wantFind(t, h, root, 256, 0)
	wantFind(t, h, root, 16, 8)
	// All of them: nothing is left. With another owner, his tree stays.
	table.Inc(root)
	if got := cut(t, h, root, 16); got != 0 {
		t.Error(got)
	}
	wantCounts(t, table, map[int]int{4: 1, 5: 1, 8: 1, 9: 1})
	wantFind(t, h, root, 16, 8)
	if got := cut(t, h, root, 16); got != 0 {
		t.Error(got)
	}
	wantCounts(t, table, nil)
}

func TestZ5CutCopies(t *testing.T) {
	h, table := pool(t, 40, blocks{})
	root := set(t, h, 0, 0, alloc(t, table))
	root = set(t, h, root, 1, alloc(t, table))
	table.Inc(root)
	got := cut(t, h, root, 0)
	if got != 8 {
		t.Error(got)
	}
	wantCounts(t, table, map[int]int{3: 1, 4: 1, 5: 1, 6: 1, 7: 2, 8: 1, 9: 1, 10: 1})
	wantFind(t, h, root, 0, 3)
	wantFind(t, h, got, 0, 0)
	wantFind(t, h, got, 1, 7)
	// The copies need room, even if they are not kept.
	h, table = pool(t, 8, blocks{})
	root = set(t, h, 0, 0, alloc(t, table))
	table.Inc(root)
	if got, e := h.Cut(root, 0); got != 0 || e != api.ErrCountFull {
		t.Error(got, e)
	}
}

func TestZ5Clip(t *testing.T) {
	keys := []int{0, 15, 16, 255, 256, 300, 4095}
	for _, size := range []int{0, 1, 15, 16, 17, 255, 256, 257, 300, 301, 4095, 4096} {
		h, table := pool(t, 60, blocks{})
		root := 0
		for _, key := range keys {
			root = set(t, h, root, key, alloc(t, table))
		}
		table.Inc(root)
		pairs, _ := h.Pairs(root)
		got, e := h.Clip(root, size)
		if e != api.OK {
			t.Fatal(size, e)
		}
		left, _ := h.Pairs(got)
		var want []api.Pair
		for _, p := range pairs {
			if p.Key < size {
				want = append(want, p)
			}
		}
		if !slices.Equal(left, want) || (got == 0) != (size == 0) || (got == root) != (size == 4096) {
			t.Error(size, got, left)
		}
		if after, _ := h.Pairs(root); size < 4096 && !slices.Equal(after, pairs) {
			t.Error("the other tree", size, after)
		}
		if size < 4096 {
			h.Drop(root)
		} else {
			table.Dec(root)
		}
		if e := h.Drop(got); e != api.OK || table.Free() != 57 {
			t.Error("not all is free", size, e, table.Free())
		}
	}
}

// TestZ5ClipFromTheGreatest shows the order by the blocks that copies get: the first path that is copied is that of the greatest key.
func TestZ5ClipFromTheGreatest(t *testing.T) {
	h, table := pool(t, 60, blocks{})
	root := set(t, h, 0, 0, alloc(t, table))
	root = set(t, h, root, 1, alloc(t, table))
	root = set(t, h, root, 512, alloc(t, table))
	table.Inc(root) // 3, 7, 8 below 4; 5, 6 above 3 and 7; 9, 10 above 8
	got, e := h.Clip(root, 1)
	if e != api.OK || got != 11 {
		t.Fatal(got, e)
	}
	wantCounts(t, table, map[int]int{3: 2, 4: 1, 5: 1, 6: 1, 7: 1, 8: 1, 9: 1, 10: 1, 11: 1, 12: 1, 13: 1})
}

func TestZ6Drop(t *testing.T) {
	h, table := pool(t, 60, blocks{})
	if e := h.Drop(0); e != api.OK {
		t.Error(e)
	}
	root := 0
	for _, key := range []int{0, 1, 4095} {
		root = set(t, h, root, key, alloc(t, table))
	}
	table.Inc(3)
	table.Inc(root)
	if e := h.Drop(root); e != api.OK {
		t.Error(e)
	}
	wantCounts(t, table, map[int]int{3: 2, 4: 1, 5: 1, 6: 1, 7: 1, 8: 1, 9: 1, 10: 1})
	table.Inc(5)
	if e := h.Drop(root); e != api.OK {
		t.Error(e)
	}
	wantCounts(t, table, map[int]int{3: 2, 5: 1, 6: 1, 7: 1})
	if e := h.Drop(root); e != api.ErrTrieForm {
		t.Error("a tree that is gone", e)
	}
}

// forest is a model of trees, and the blocks that they should share.
type forest struct {
	h     *trie.Heap
	table *count.Table
	roots []int
	trees []map[int]int
}

// wantRight looks whether all trees hold what they should, and whether each count is the number of references.
func (f *forest) wantRight(t *testing.T) {
	t.Helper()
	refs := map[int]int{}
	var visit func(b, level int)
	visit = func(b, level int) {
		refs[b]++
		if refs[b] > 1 || level == 0 {
			return
		}
		s, _ := f.h.Read(b)
		for _, entry := range []byte(s[:16]) {
			if entry != 0 {
				visit(int(entry), level-1)
			}
		}
	}
	for i, root := range f.roots {
		if root != 0 {
			visit(root, 3)
		}
		pairs, e := f.h.Pairs(root)
		if e != api.OK || len(pairs) != len(f.trees[i]) {
			t.Fatal("Pairs", i, len(pairs), len(f.trees[i]), e)
		}
		for _, p := range pairs {
			if f.trees[i][p.Key] != p.Block {
				t.Fatal("tree", i, p)
			}
		}
	}
	wantCounts(t, f.table, refs)
}

func TestZ7Forest(t *testing.T) {
	for seed := range 20 {
		state := uint64(seed)
		next := func(limit int) int {
			state = state*6364136223846793005 + 1442695040888963407
			return int(state>>33) % limit
		}
		h, table := pool(t, 200, blocks{})
		f := &forest{h: h, table: table}
		for step := range 300 {
			i := -1
			if len(f.roots) > 0 {
				i = next(len(f.roots))
			}
			key := []int{next(20), next(4096), 16 * next(4), 256 * next(16)}[next(4)]
			switch what := next(10); {
			case i < 0 || what == 0 && len(f.roots) < 5:
				f.roots, f.trees = append(f.roots, 0), append(f.trees, map[int]int{})
			case what == 1 && len(f.roots) < 5:
				if f.roots[i] != 0 {
					table.Inc(f.roots[i])
				}
				f.roots, f.trees = append(f.roots, f.roots[i]), append(f.trees, maps.Clone(f.trees[i]))
			case what == 2:
				if e := h.Drop(f.roots[i]); e != api.OK {
					t.Fatal("Drop", e)
				}
				f.roots, f.trees = slices.Delete(f.roots, i, i+1), slices.Delete(f.trees, i, i+1)
			case what == 3:
				root, e := h.Clip(f.roots[i], key)
				if e != api.OK {
					t.Fatal("Clip", e)
				}
				f.roots[i] = root
				maps.DeleteFunc(f.trees[i], func(k, _ int) bool { return k >= key })
			case what < 6:
				f.roots[i] = cut(t, h, f.roots[i], key)
				delete(f.trees[i], key)
			default:
				if table.Free() < 20 {
					continue
				}
				b := alloc(t, table)
				if e := h.Put(b, text(byte(step), byte(b))); e != api.OK {
					t.Fatal("Put", e)
				}
				f.roots[i] = set(t, h, f.roots[i], key, b)
				f.trees[i][key] = b
			}
			f.wantRight(t)
		}
		for _, root := range f.roots {
			h.Drop(root)
		}
		if table.Free() != 197 || len(h.Changed()) != 0 {
			t.Fatal("not all is free", table.Free())
		}
	}
}
