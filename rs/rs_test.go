package rs_test

import (
	"slices"
	"strings"
	"testing"

	"stave/api"
	"stave/gf"
	"stave/rs"
)

// text is bytes that look random, the same in each run.
func text(seed, length int) string {
	state := uint64(seed)*2654435761 + 12345
	b := make([]byte, length)
	for i := range b {
		state = state*6364136223846793005 + 1442695040888963407
		b[i] = byte(state >> 40)
	}
	return string(b)
}

func texts(seed, count, length int) []string {
	var l []string
	for i := range count {
		l = append(l, text(seed*100+i, length))
	}
	return l
}

// element is that of the Cauchy matrix of m rows.
func element(m, i, j int) byte {
	inverse, _ := gf.Inv(byte(i) ^ byte(m+j))
	return inverse
}

func word(t *testing.T, data []string, m int) []string {
	t.Helper()
	parity, e := rs.Encode(data, m)
	if e != api.OK || len(parity) != m {
		t.Fatal("Encode", len(data), m, e)
	}
	return slices.Concat(data, parity)
}

func TestR1Encode(t *testing.T) {
	if got, e := rs.Encode([]string{"\x01", "\x02"}, 1); e != api.OK || !slices.Equal(got, []string{"\x00"}) {
		t.Errorf("%q %d", got, e)
	}
	for k := 1; k <= 8; k++ {
		for m := 1; m <= 8; m++ {
			length := []int{1, 5, 120, 4096}[(k+m)%4]
			data := texts(k*9+m, k, length)
			was := slices.Clone(data)
			all := word(t, data, m)
			if !slices.Equal(data, was) {
				t.Fatal("argument changed")
			}
			for i := range m {
				for x := range length {
					var sum byte
					for j := range k {
						sum ^= gf.Mul(element(m, i, j), data[j][x])
					}
					if all[k+i][x] != sum {
						t.Fatal(k, m, i, x)
					}
				}
			}
		}
	}
	for i, x := range []struct {
		data []string
		m    int
	}{
		{nil, 1}, {[]string{}, 1}, {[]string{""}, 1}, {[]string{"", ""}, 1}, {[]string{"a", "ab"}, 1}, {[]string{"ab", "a"}, 1}, {[]string{"a", ""}, 2},
		{texts(1, 9, 3), 1}, {texts(1, 9, 3), 9}, {texts(1, 2, 3), 0}, {texts(1, 2, 3), -1}, {texts(1, 2, 3), 9}, {texts(1, 1, 4097), 1}, {texts(1, 2, 3), 1 << 40},
	} {
		if got, e := rs.Encode(x.data, x.m); e != api.ErrRsForm || len(got) != 0 {
			t.Error(i, got, e)
		}
	}
}

func TestR2Decode(t *testing.T) {
	if got, e := rs.Decode(1, []string{"anything", "\x02", "\x00"}, []bool{false, true, true}); e != api.OK || !slices.Equal(got, []string{"\x01", "\x02"}) {
		t.Errorf("%q %d", got, e)
	}
	if got, e := rs.Decode(1, []string{"anything", "\x02", "\x00"}, []bool{false, true, false}); e != api.ErrRsFew || len(got) != 0 {
		t.Errorf("%q %d", got, e)
	}
	if got, e := rs.Decode(2, []string{"a", "b", "c"}, []bool{false, false, false}); e != api.ErrRsFew || len(got) != 0 {
		t.Errorf("%q %d", got, e)
	}
	// The first shards that are present count, even where the others do not fit them.
	if got, e := rs.Decode(2, []string{"\x01", "\x02", "\x77", "\x78"}, []bool{true, true, true, true}); e != api.OK || !slices.Equal(got, []string{"\x01", "\x02"}) {
		t.Errorf("%q %d", got, e)
	}
	yes := func(n int) []bool { return slices.Repeat([]bool{true}, n) }
	for i, x := range []struct {
		m      int
		shards []string
		have   []bool
	}{
		{0, texts(1, 3, 2), yes(3)}, {-1, texts(1, 3, 2), yes(3)}, {9, texts(1, 12, 2), yes(12)},
		{1, texts(1, 1, 2), yes(1)}, {1, texts(1, 10, 2), yes(10)}, {3, texts(1, 3, 2), yes(3)}, {8, texts(1, 17, 2), yes(17)},
		{1, nil, nil}, {1, texts(1, 3, 2), yes(2)}, {1, texts(1, 3, 2), yes(4)}, {1, texts(1, 3, 2), nil},
		{1, []string{"a", "bc", "d"}, yes(3)}, {1, []string{"a", "b", "cd"}, yes(3)}, {1, []string{"", "", ""}, yes(3)},
		{1, texts(1, 3, 4097), yes(3)},
		{1, []string{"a", "bc", "d"}, []bool{true, true, false}},
		{2, []string{"a", "", "c", "d"}, []bool{false, true, false, false}}, // and too few as well
	} {
		if got, e := rs.Decode(x.m, x.shards, x.have); e != api.ErrRsForm || len(got) != 0 {
			t.Error(i, got, e)
		}
	}
	if got, e := rs.Decode(8, texts(1, 16, 4096), yes(16)); e != api.OK || !slices.Equal(got, texts(1, 8, 4096)) {
		t.Error("the greatest", e)
	}
}

func TestR3Update(t *testing.T) {
	for k := 1; k <= 8; k++ {
		for m := 1; m <= 8; m++ {
			data := texts(k*8+m, k, 33)
			parity := word(t, data, m)[k:]
			was := slices.Clone(parity)
			index := (k * m) % k
			now := text(k*1000+m, 33)
			got, e := rs.Update(k, index, parity, data[index], now)
			if e != api.OK || len(got) != m || !slices.Equal(parity, was) {
				t.Fatal(k, m, e)
			}
			for i := range m {
				for x := range 33 {
					if got[i][x] != parity[i][x]^gf.Mul(element(m, i, index), data[index][x]^now[x]) {
						t.Fatal(k, m, i, x)
					}
				}
			}
		}
	}
	for i, x := range []struct {
		k, index int
		parity   []string
		was, now string
	}{
		{0, 0, []string{"a"}, "b", "c"}, {-1, 0, []string{"a"}, "b", "c"}, {9, 0, []string{"a"}, "b", "c"}, {2, 2, []string{"a"}, "b", "c"}, {2, -1, []string{"a"}, "b", "c"},
		{2, 1, nil, "b", "c"}, {2, 1, texts(1, 9, 1), "b", "c"}, {2, 1, []string{"a", "bc"}, "b", "c"}, {2, 1, []string{"a"}, "bb", "c"}, {2, 1, []string{"a"}, "b", "cc"},
		{2, 1, []string{""}, "", ""}, {2, 1, texts(1, 1, 4097), text(2, 4097), text(3, 4097)}, {2, 1, []string{"a"}, "bb", "cc"},
	} {
		if got, e := rs.Update(x.k, x.index, x.parity, x.was, x.now); e != api.ErrRsForm || len(got) != 0 {
			t.Error(i, got, e)
		}
	}
}

func TestR4AnyShardsDecode(t *testing.T) {
	for _, km := range [][2]int{{1, 1}, {2, 1}, {4, 3}, {3, 5}, {8, 2}} {
		k, m := km[0], km[1]
		data := texts(k*31+m, k, 7)
		all := word(t, data, m)
		for set := range 1 << (k + m) {
			shards, have, count := slices.Clone(all), make([]bool, k+m), 0
			for i := range shards {
				if set>>i&1 == 1 {
					have[i] = true
					count++
				} else {
					shards[i] = strings.Repeat("junk", i)
				}
			}
			before, flags := slices.Clone(shards), slices.Clone(have)
			got, e := rs.Decode(m, shards, have)
			if !slices.Equal(before, shards) || !slices.Equal(flags, have) {
				t.Fatal("arguments changed")
			}
			if count >= k && (e != api.OK || !slices.Equal(got, data)) || count < k && (e != api.ErrRsFew || len(got) != 0) {
				t.Fatal(k, m, set, e)
			}
		}
	}
}

func TestR4UpdateAndSums(t *testing.T) {
	for k := 1; k <= 8; k++ {
		for m := 1; m <= 8; m++ {
			data, other := texts(k+m, k, 20), texts(k+m+50, k, 20)
			parity, second := word(t, data, m)[k:], word(t, other, m)[k:]
			changed := slices.Clone(data)
			changed[k-1] = other[k-1]
			updated, e := rs.Update(k, k-1, parity, data[k-1], other[k-1])
			if e != api.OK || !slices.Equal(updated, word(t, changed, m)[k:]) {
				t.Fatal("Update is not Encode", k, m)
			}
			sum := make([]string, k)
			for i := range sum {
				sum[i] = gf.MulAdd(data[i], 1, other[i])
			}
			for i, s := range word(t, sum, m)[k:] {
				if s != gf.MulAdd(parity[i], 1, second[i]) {
					t.Fatal("parity of a sum", k, m, i)
				}
			}
		}
	}
}

func TestResultsAreNew(t *testing.T) {
	data := []string{"\x01", "\x02"}
	one, _ := rs.Decode(1, []string{"\x01", "\x02", "\x00"}, []bool{true, true, true})
	one[0] = "x"
	_ = append(one[:1], "y")
	two, _ := rs.Decode(1, []string{"\x01", "\x02", "\x00"}, []bool{true, true, true})
	if !slices.Equal(two, data) {
		t.Error(two)
	}
}
