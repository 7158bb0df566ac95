package mat_test

import (
	"slices"
	"strings"
	"testing"

	"stave/api"
	"stave/gf"
	"stave/mat"
)

// numbers yields numbers that look random, the same in each run.
type numbers struct{ state uint64 }

func (n *numbers) next() byte {
	n.state = n.state*6364136223846793005 + 1442695040888963407
	return byte(n.state >> 40)
}

func (n *numbers) matrix(rows, length int) []string {
	m := make([]string, rows)
	for i := range m {
		row := make([]byte, length)
		for j := range row {
			row[j] = n.next()
		}
		m[i] = string(row)
	}
	return m
}

func rows(count, length int) []string {
	m := make([]string, count)
	for i := range m {
		m[i] = strings.Repeat("x", length)
	}
	return m
}

// wrong are lists of rows that are no matrices.
func wrong() [][]string {
	return [][]string{nil, {}, {""}, {"", ""}, {"a", "ab"}, {"ab", "a"}, {"a", ""}, {"", "a"}, {"ab", "cd", "e"}, rows(17, 17), rows(17, 1), rows(1, 4097), rows(2, 4097)}
}

func TestM1Right(t *testing.T) {
	for _, a := range [][]string{{"a"}, {"a", "b"}, {"ab", "cd"}, rows(16, 1), rows(1, 4096), rows(16, 4096), rows(3, 7)} {
		if !mat.Right(a) {
			t.Error("should be a matrix", len(a), len(a[0]))
		}
	}
	for i, a := range wrong() {
		if mat.Right(a) {
			t.Error("should be no matrix", i)
		}
	}
}

func TestM2Mul(t *testing.T) {
	var n numbers
	for _, size := range [][3]int{{1, 1, 1}, {2, 3, 4}, {4, 3, 2}, {16, 16, 16}, {1, 16, 4096}, {16, 1, 5}, {3, 2, 120}} {
		a, b := n.matrix(size[0], size[1]), n.matrix(size[1], size[2])
		was := slices.Clone(a)
		got, e := mat.Mul(a, b)
		if e != api.OK || len(got) != size[0] || !slices.Equal(a, was) {
			t.Fatal(size, e, len(got))
		}
		for i := range got {
			if len(got[i]) != size[2] {
				t.Fatal(size, i, len(got[i]))
			}
			for j := range size[2] {
				var sum byte
				for s := range size[1] {
					sum = gf.Add(sum, gf.Mul(a[i][s], b[s][j]))
				}
				if got[i][j] != sum {
					t.Fatal(size, i, j, got[i][j], sum)
				}
			}
		}
		if size[1] != size[0] || size[1] != size[2] {
			if bad, e := mat.Mul(a, append(slices.Clone(b), b[0])); e != api.ErrMatForm || len(bad) != 0 {
				t.Error("a row too many", size, e)
			}
		}
	}
	for i, a := range wrong() {
		if got, e := mat.Mul(a, []string{"a"}); e != api.ErrMatForm || len(got) != 0 {
			t.Error("left", i, e)
		}
		if got, e := mat.Mul([]string{strings.Repeat("a", max(1, min(16, len(a))))}, a); e != api.ErrMatForm || len(got) != 0 {
			t.Error("right", i, e)
		}
	}
	if got, e := mat.Mul([]string{"ab"}, []string{"ab"}); e != api.ErrMatForm || len(got) != 0 {
		t.Error("sizes that do not fit", e)
	}
	if got, e := mat.Mul(rows(1, 17), rows(16, 1)); e != api.ErrMatForm || len(got) != 0 {
		t.Error("rows too long", e)
	}
}

func TestM3IdentityAndCauchy(t *testing.T) {
	for n := -2; n < 20; n++ {
		got, e := mat.Identity(n)
		if n < 1 || n > 16 {
			if e != api.ErrMatForm || len(got) != 0 {
				t.Error("Identity", n, e)
			}
			continue
		}
		if e != api.OK || len(got) != n {
			t.Fatal("Identity", n, e)
		}
		for i := range got {
			want := make([]byte, n)
			want[i] = 1
			if got[i] != string(want) {
				t.Error("Identity", n, i)
			}
		}
	}
	for k := -1; k < 19; k++ {
		for m := -1; m < 19; m++ {
			got, e := mat.Cauchy(k, m)
			if k < 1 || k > 16 || m < 1 || m > 16 {
				if e != api.ErrMatForm || len(got) != 0 {
					t.Error("Cauchy", k, m, e)
				}
				continue
			}
			if e != api.OK || len(got) != m {
				t.Fatal("Cauchy", k, m, e)
			}
			for i := range m {
				if len(got[i]) != k {
					t.Fatal("Cauchy", k, m, i)
				}
				for j := range k {
					if gf.Mul(got[i][j], byte(i)^byte(m+j)) != 1 {
						t.Fatal("Cauchy", k, m, i, j)
					}
				}
			}
		}
	}
	if got, _ := mat.Cauchy(2, 1); !slices.Equal(got, []string{"\x01\x8e"}) {
		t.Errorf("%q", got)
	}
}

func TestM4Inverse(t *testing.T) {
	if got, e := mat.Inverse([]string{"\x01\x00", "\x01\x8e"}); e != api.OK || !slices.Equal(got, []string{"\x01\x00", "\x02\x02"}) {
		t.Errorf("%q %d", got, e)
	}
	for _, a := range [][]string{{"\x01\x01", "\x01\x01"}, {"\x00"}, {"\x00\x01", "\x00\x02"}, {"\x01\x02", "\x02\x04"}, {"\x01\x00\x00", "\x00\x01\x00", "\x01\x01\x00"}} {
		if got, e := mat.Inverse(a); e != api.ErrMatSingular || len(got) != 0 {
			t.Errorf("%q: %q %d", a, got, e)
		}
	}
	for i, a := range append(wrong(), []string{"ab"}, []string{"a", "b"}, rows(16, 17), []string{"\x00\x00"}) {
		if got, e := mat.Inverse(a); e != api.ErrMatForm || len(got) != 0 {
			t.Error(i, e)
		}
	}
	var n numbers
	inverted := 0
	for i := range 200 {
		size := i%16 + 1
		a := n.matrix(size, size)
		if i%3 == 0 { // noughts on the diagonal ask for another row
			a[0] = "\x00" + a[0][1:]
		}
		was := slices.Clone(a)
		b, e := mat.Inverse(a)
		if !slices.Equal(a, was) {
			t.Fatal("argument changed")
		}
		if e == api.ErrMatSingular {
			continue
		}
		inverted++
		unit, _ := mat.Identity(size)
		right, _ := mat.Mul(a, b)
		if e != api.OK || !slices.Equal(right, unit) {
			t.Fatal("no inverse", size, e)
		}
	}
	if inverted < 150 {
		t.Error("too few have inverses", inverted)
	}
	if got, e := mat.Inverse([]string{"\x00\x01", "\x01\x00"}); e != api.OK || !slices.Equal(got, []string{"\x00\x01", "\x01\x00"}) {
		t.Errorf("%q %d", got, e)
	}
}

func TestM5Theorem(t *testing.T) {
	var n numbers
	for size := 1; size <= 16; size++ {
		a, b, c := n.matrix(size, size), n.matrix(size, 3), n.matrix(3, 5)
		ab, _ := mat.Mul(a, b)
		bc, _ := mat.Mul(b, c)
		left, _ := mat.Mul(ab, c)
		right, _ := mat.Mul(a, bc)
		if !slices.Equal(left, right) {
			t.Error("not associative", size)
		}
		inverse, e := mat.Inverse(a)
		if e == api.OK {
			unit, _ := mat.Identity(size)
			if both, _ := mat.Mul(inverse, a); !slices.Equal(both, unit) {
				t.Error("no inverse from the left", size)
			}
		}
	}
	for _, km := range [][2]int{{4, 3}, {8, 8}, {16, 16}, {3, 5}} {
		c, _ := mat.Cauchy(km[0], km[1])
		for i := range 300 {
			size := i%min(km[0], km[1]) + 1
			rows, columns := n.choose(km[1], size), n.choose(km[0], size)
			part := make([]string, size)
			for r := range part {
				for _, column := range columns {
					part[r] += c[rows[r]][column : column+1]
				}
			}
			if _, e := mat.Inverse(part); e != api.OK {
				t.Fatal("a part of a Cauchy matrix has no inverse", km, rows, columns)
			}
		}
	}
}

// choose is a list of size different numbers below limit.
func (n *numbers) choose(limit, size int) []int {
	var list []int
	for len(list) < size {
		if x := int(n.next()) % limit; !slices.Contains(list, x) {
			list = append(list, x)
		}
	}
	return list
}

func TestResultsAreNew(t *testing.T) {
	a := []string{"\x01\x00", "\x01\x8e"}
	one, _ := mat.Inverse(a)
	two, _ := mat.Inverse(a)
	one[0] = "changed"
	if two[0] == "changed" || a[0] == "changed" {
		t.Error("results share memory")
	}
	first, _ := mat.Identity(2)
	first[0] = "changed"
	if second, _ := mat.Identity(2); second[0] != "\x01\x00" {
		t.Error("Identity is kept")
	}
}
