package count_test

import (
	"math"
	"slices"
	"strings"
	"testing"

	"stave/api"
	"stave/count"
)

func fresh(t *testing.T, blocks int) *count.Table {
	t.Helper()
	table, e := count.New(blocks)
	if e != api.OK || table == nil {
		t.Fatal("New", blocks, e)
	}
	return table
}

func wantAlloc(t *testing.T, table *count.Table, want int, e api.Errno) {
	t.Helper()
	if got, f := table.Alloc(); got != want || f != e {
		t.Fatal("Alloc", got, f, "and not", want, e)
	}
}

func wantDec(t *testing.T, table *count.Table, b, want int, e api.Errno) {
	t.Helper()
	if got, f := table.Dec(b); got != want || f != e {
		t.Fatal("Dec", b, got, f, "and not", want, e)
	}
}

func wantInc(t *testing.T, table *count.Table, b int, e api.Errno) {
	t.Helper()
	if f := table.Inc(b); f != e {
		t.Fatal("Inc", b, f, "and not", e)
	}
}

func TestC1New(t *testing.T) {
	for _, n := range []int{7, 0, -1, 201, math.MaxInt, math.MinInt} {
		if table, e := count.New(n); table != nil || e != api.ErrArg {
			t.Error(n, e)
		}
	}
	for _, n := range []int{8, 119, 120, 121, 200} {
		table := fresh(t, n)
		if table.Blocks() != n || table.Used() != 3 || table.Free() != n-3 {
			t.Error(n, table.Blocks(), table.Used(), table.Free())
		}
		for b := -1; b < 260; b++ {
			want := 0
			if b >= 0 && b < 3 {
				want = 1
			}
			if table.Count(b) != want {
				t.Error("Count", n, b, table.Count(b))
			}
		}
		if table.Count(math.MaxInt) != 0 || table.Count(math.MinInt) != 0 {
			t.Error("Count of none")
		}
	}
}

func TestExample(t *testing.T) {
	table := fresh(t, 8)
	wantAlloc(t, table, 3, api.OK)
	wantAlloc(t, table, 4, api.OK)
	wantInc(t, table, 3, api.OK)
	if table.Count(3) != 2 || table.Used() != 5 || table.Free() != 3 {
		t.Error(table.Count(3), table.Used())
	}
	wantDec(t, table, 3, 1, api.OK)
	wantDec(t, table, 3, 0, api.OK)
	wantAlloc(t, table, 3, api.OK)
	wantInc(t, table, 1, api.ErrCountNone)
	wantDec(t, table, 7, 0, api.ErrCountNone)
}

func TestC2Alloc(t *testing.T) {
	table := fresh(t, 200)
	for b := 3; b < 200; b++ {
		wantAlloc(t, table, b, api.OK)
		if table.Count(b) != 1 || table.Used() != b+1 || table.Free() != 199-b {
			t.Fatal(b, table.Count(b), table.Used(), table.Free())
		}
	}
	for range 3 {
		wantAlloc(t, table, 0, api.ErrCountFull)
	}
	if table.Used() != 200 || table.Free() != 0 || table.Count(0) != 1 {
		t.Error("after ErrCountFull")
	}
	wantDec(t, table, 150, 0, api.OK)
	wantDec(t, table, 77, 0, api.OK)
	wantAlloc(t, table, 77, api.OK)
	wantAlloc(t, table, 150, api.OK)
	wantAlloc(t, table, 0, api.ErrCountFull)
}

func TestIncAndDec(t *testing.T) {
	table := fresh(t, 9)
	wantAlloc(t, table, 3, api.OK)
	before := table.Lay()
	for _, b := range []int{-1, 0, 1, 2, 4, 8, 9, 100, math.MaxInt, math.MinInt} {
		wantInc(t, table, b, api.ErrCountNone)
		wantDec(t, table, b, 0, api.ErrCountNone)
	}
	if !slices.Equal(before, table.Lay()) {
		t.Error("something changed")
	}
	for n := 2; n <= 255; n++ {
		wantInc(t, table, 3, api.OK)
		if table.Count(3) != n {
			t.Fatal(n, table.Count(3))
		}
	}
	wantInc(t, table, 3, api.ErrCountMost)
	if table.Count(3) != 255 || table.Used() != 4 {
		t.Error(table.Count(3))
	}
	for n := 254; n >= 0; n-- {
		wantDec(t, table, 3, n, api.OK)
		if table.Count(3) != n {
			t.Fatal(n, table.Count(3))
		}
	}
	wantDec(t, table, 3, 0, api.ErrCountNone)
	wantInc(t, table, 3, api.ErrCountNone)
}

func bytes(n int) string { return strings.Repeat("\x00", n) }

func TestC3Lay(t *testing.T) {
	table := fresh(t, 130)
	for range 125 {
		table.Alloc()
	}
	for range 200 {
		table.Inc(121)
	}
	table.Dec(5)
	want := []string{"\x01\x01\x01\x01\x01\x00" + strings.Repeat("\x01", 114), "\x01\xc9\x01\x01\x01\x01\x01\x01" + bytes(112)}
	if got := table.Lay(); !slices.Equal(got, want) {
		t.Errorf("%q", got)
	}
	if got := fresh(t, 8).Lay(); !slices.Equal(got, []string{"\x01\x01\x01" + bytes(117), bytes(120)}) {
		t.Errorf("%q", got)
	}
	table.Lay()[0] = "x"
	if !slices.Equal(table.Lay(), want) {
		t.Error("Lay is not new memory")
	}
	got, e := count.Of(130, want)
	if e != api.OK || !slices.Equal(got.Lay(), want) || got.Blocks() != 130 || got.Count(121) != 201 || got.Count(5) != 0 || got.Used() != 127 {
		t.Error("Of", e)
	}
}

func TestC3Of(t *testing.T) {
	first, second := "\x01\x01\x01"+bytes(117), bytes(120)
	for _, n := range []int{8, 120, 200} {
		if table, e := count.Of(n, []string{first, second}); e != api.OK || table.Blocks() != n || table.Used() != 3 {
			t.Error(n, e)
		}
	}
	for i, x := range []struct {
		n int
		l []string
	}{
		{7, []string{first, second}}, {201, []string{first, second}}, {-1, []string{first, second}}, {math.MaxInt, []string{first, second}}, {0, nil},
		{8, nil}, {8, []string{first}}, {8, []string{first, second, ""}}, {8, []string{first, second, second}}, {8, []string{second, first}}, {8, []string{"", ""}},
		{8, []string{first[:119], second}}, {8, []string{first + "\x00", second}}, {200, []string{first, second[1:]}}, {200, []string{first, second + "\x00"}}, {200, []string{first + second, ""}}, {8, []string{first, ""}}, {8, []string{first[:3], second}},
		{8, []string{"\x00" + first[1:], second}}, {8, []string{"\x01\x02" + first[2:], second}}, {8, []string{"\x01\x01\x00" + first[3:], second}},
		{8, []string{first[:8] + "\x01" + first[9:], second}}, {120, []string{first, "\x01" + second[1:]}}, {200, []string{first, second[:80] + "\x01" + second[81:]}}, {200, []string{first, second[:119] + "\x01"}},
	} {
		if table, e := count.Of(x.n, x.l); table != nil || e != api.ErrArg {
			t.Error(i, e)
		}
	}
	if table, e := count.Of(9, []string{first[:8] + "\xff" + first[9:], second}); e != api.OK || table.Count(8) != 255 {
		t.Error("the last block", e)
	}
	if table, e := count.Of(200, []string{first, second[:79] + "\x07" + second[80:]}); e != api.OK || table.Count(199) != 7 {
		t.Error("the last block", e)
	}
}

func TestC3Clone(t *testing.T) {
	table := fresh(t, 10)
	table.Alloc()
	other := table.Clone()
	if !slices.Equal(other.Lay(), table.Lay()) || other.Blocks() != 10 {
		t.Error("not the same")
	}
	other.Inc(3)
	table.Alloc()
	if table.Count(3) != 1 || other.Count(4) != 0 || other.Count(3) != 2 || table.Count(4) != 1 {
		t.Error("not independent")
	}
}

func TestC4Theorem(t *testing.T) {
	table, refs, state := fresh(t, 60), map[int]int{}, uint64(1)
	next := func(limit int) int {
		state = state*6364136223846793005 + 1442695040888963407
		return int(state>>33) % limit
	}
	for range 5000 {
		b := next(64) - 2
		switch next(3) {
		case 0:
			got, e := table.Alloc()
			if e == api.OK && refs[got] > 0 || e != api.OK && len(refs) < 57 {
				t.Fatal("Alloc", got, e)
			}
			if e == api.OK {
				refs[got] = 1
			}
		case 1:
			if e := table.Inc(b); (e == api.OK) != (refs[b] > 0) {
				t.Fatal("Inc", b, e)
			}
			if refs[b] > 0 {
				refs[b]++
			}
		default:
			left, e := table.Dec(b)
			if (e == api.OK) != (refs[b] > 0) || left != max(refs[b]-1, 0) {
				t.Fatal("Dec", b, left, e)
			}
			if refs[b]--; refs[b] <= 0 {
				delete(refs, b)
			}
		}
		if table.Used() != len(refs)+3 || table.Used()+table.Free() != 60 {
			t.Fatal("Used", table.Used(), len(refs))
		}
		back, e := count.Of(60, table.Lay())
		if e != api.OK || !slices.Equal(back.Lay(), table.Lay()) {
			t.Fatal("Of does not invert Lay", e)
		}
	}
	for b, n := range refs {
		for range n {
			table.Dec(b)
		}
	}
	if table.Free() != 57 {
		t.Error("all should be free", table.Free())
	}
}
