package record_test

import (
	"hash/crc32"
	"math"
	"slices"
	"strings"
	"testing"

	"stave/api"
	"stave/record"
)

var (
	small = api.Geometry{K: 1, M: 1, Blocks: 8}
	large = api.Geometry{K: 4, M: 3, Blocks: 200}
)

func text(n int) string {
	return strings.Repeat(string([]byte{byte(n), byte(n >> 8), 'x'}), 40)
}

// of is a record of some stripes, with data of its own each.
func of(g api.Geometry, seq int, stripes ...int) api.Record {
	r := api.Record{Seq: seq}
	for _, n := range stripes {
		s := api.Stripe{N: n}
		for i := range g.K {
			s.Data = append(s.Data, text(n*10+i+seq))
		}
		r.Stripes = append(r.Stripes, s)
	}
	return r
}

func to(n int) []int {
	var l []int
	for i := range n {
		l = append(l, i)
	}
	return l
}

// all are records, and whether they are valid.
func all() []struct {
	g     api.Geometry
	r     api.Record
	right bool
} {
	type x = struct {
		g     api.Geometry
		r     api.Record
		right bool
	}
	change := func(do func(r *api.Record)) api.Record {
		r := of(small, 5, 2, 3)
		do(&r)
		return r
	}
	return []x{
		{small, of(small, 5, 2, 3), true}, {small, of(small, 1, 0), true}, {small, of(small, 1<<40, 7), true}, {small, of(small, 9, to(8)...), true}, {large, of(large, 7, to(16)...), true}, {large, of(large, 7, 0, 49), true},
		{small, of(small, 0, 2), false}, {small, of(small, -1, 2), false}, {small, of(small, 1<<40+1, 2), false}, {small, of(small, math.MaxInt, 2), false},
		{small, of(small, 5), false}, {small, of(small, 5, 3, 2), false}, {small, of(small, 5, 2, 2), false}, {small, of(small, 5, 8), false}, {small, of(small, 5, -1), false}, {small, of(small, 5, -1, 0), false}, {large, of(large, 7, to(17)...), false}, {large, of(large, 7, 50), false}, {large, of(large, 7, 2, 1, 3), false}, {small, of(small, 5, math.MaxInt), false}, {small, of(small, 5, math.MinInt, 2), false},
		{small, of(large, 5, 2), false}, {large, of(small, 5, 2), false}, {api.Geometry{}, of(small, 5, 2), false}, {api.Geometry{K: 1, M: 1, Blocks: 7}, of(small, 5, 2), false}, {api.Geometry{K: math.MaxInt, M: 1, Blocks: 8}, of(small, 5, 2), false}, {api.Geometry{K: 0, M: 1, Blocks: 8}, of(api.Geometry{}, 5, 2), false},
		{small, change(func(r *api.Record) { r.Stripes[1].Data = nil }), false}, {small, change(func(r *api.Record) { r.Stripes[1].Data = []string{text(1), text(2)} }), false}, {small, change(func(r *api.Record) { r.Stripes[1].Data[0] += "x" }), false}, {small, change(func(r *api.Record) { r.Stripes[0].Data[0] = text(1)[1:] }), false}, {small, change(func(r *api.Record) { r.Stripes[0].Data[0] = "" }), false},
		{small, change(func(r *api.Record) { r.Stripes[0].Data, r.Stripes[1].Data = nil, []string{text(1), text(2)} }), false},
		{small, api.Record{}, false},
	}
}

func TestJ1Right(t *testing.T) {
	for i, x := range all() {
		if record.Right(x.g, x.r) != x.right {
			t.Error(i, x.right)
		}
	}
}

func TestJ1Same(t *testing.T) {
	if !record.Same(of(large, 5, 2, 3), of(large, 5, 2, 3)) || !record.Same(api.Record{}, api.Record{Stripes: []api.Stripe{}}) {
		t.Error("the same")
	}
	for i, change := range []func(r *api.Record){
		func(r *api.Record) { r.Seq++ }, func(r *api.Record) { r.Stripes[1].N++ }, func(r *api.Record) { r.Stripes[0].Data[3] = text(1) }, func(r *api.Record) { r.Stripes = r.Stripes[:1] },
		func(r *api.Record) { r.Stripes[0].Data = r.Stripes[0].Data[:3] }, func(r *api.Record) { r.Stripes[1].Data = nil }, func(r *api.Record) { r.Stripes = nil }, func(r *api.Record) { r.Stripes = append(r.Stripes, api.Stripe{}) },
	} {
		r := of(large, 5, 2, 3)
		change(&r)
		if record.Same(r, of(large, 5, 2, 3)) || record.Same(of(large, 5, 2, 3), r) {
			t.Error(i)
		}
	}
}

// head is what the head of a record has to be.
func head(r api.Record) string {
	want := "JRN1"
	for shift := 40; shift >= 0; shift -= 8 {
		want += string([]byte{byte(r.Seq >> shift)})
	}
	want += string([]byte{byte(len(r.Stripes))})
	sum := crc32.New(crc32.MakeTable(crc32.Castagnoli))
	for _, s := range r.Stripes {
		want += string([]byte{byte(s.N)})
		for _, d := range s.Data {
			sum.Write([]byte(d))
		}
	}
	return want + string(sum.Sum(nil))
}

func TestJ2Lay(t *testing.T) {
	for i, x := range all() {
		h, body, e := record.Lay(x.g, x.r)
		if !x.right {
			if h != "" || len(body) != 0 || e != api.ErrRecordForm {
				t.Error(i, e)
			}
			continue
		}
		var want []string
		for _, s := range x.r.Stripes {
			want = append(want, s.Data...)
		}
		if e != api.OK || h != head(x.r) || !slices.Equal(body, want) {
			t.Errorf("%d: %q %d", i, h, e)
		}
	}
	if h, body, _ := record.Lay(small, of(small, 5, 2, 3)); len(h) != 17 || len(body) != 2 {
		t.Error("example", len(h), len(body))
	}
}

func TestJ3Head(t *testing.T) {
	for i, x := range all() {
		if !x.right {
			continue
		}
		for _, padding := range []int{0, 1, 100, 5000} {
			seq, count, e := record.Head(x.g, head(x.r)+strings.Repeat("\x00", padding))
			if e != api.OK || seq != x.r.Seq || count != len(x.r.Stripes)*x.g.K {
				t.Error(i, seq, count, e)
			}
		}
	}
	h := head(of(small, 5, 2, 3))
	if seq, count, e := record.Head(small, h); seq != 5 || count != 2 || e != api.OK {
		t.Error(seq, count, e)
	}
	if seq, count, e := record.Head(small, h[:13]+"\x00\x00\x00\x00"); seq != 5 || count != 2 || e != api.OK {
		t.Error("whatever the checksum", seq, count, e)
	}
	number := func(n int) string { return string([]byte{byte(n)}) }
	five := "\x00\x00\x00\x00\x00\x05"
	bad := []string{"", "J", "JRN2" + h[4:], h + "x", h + "\x00\x01", "\x00" + h, strings.Repeat("\x00", 120), strings.Repeat("\xff", 120), "JRN1",
		"JRN1" + "\x00\x00\x00\x00\x00\x00" + "\x01\x02sums", "JRN1" + "\x01\x00\x00\x00\x00\x01" + "\x01\x02sums", "JRN1" + five + "\x00sums", "JRN1" + five + "\x02\x03\x02sums", "JRN1" + five + "\x02\x02\x02sums", "JRN1" + five + "\x01\x08sums"}
	for i := range len(h) {
		bad = append(bad, h[:i])
	}
	seventeen := "JRN1" + five + number(17)
	for i := range 17 {
		seventeen += number(i)
	}
	for i, s := range append(bad, seventeen+"sums") {
		for _, g := range []api.Geometry{small, {K: 1, M: 1, Blocks: 8}} {
			if seq, count, e := record.Head(g, s); e != api.ErrRecordForm || seq != 0 || count != 0 {
				t.Errorf("%d %q: %d %d %d", i, s, seq, count, e)
			}
		}
	}
	if _, _, e := record.Head(large, seventeen+"sums"); e != api.ErrRecordForm {
		t.Error("17 stripes", e)
	}
	for _, g := range []api.Geometry{{}, {K: -1, M: 1, Blocks: 8}, {K: math.MaxInt, M: 1, Blocks: 8}, {K: 1, M: 4, Blocks: 8}} {
		if seq, count, e := record.Head(g, h); e != api.ErrRecordForm || seq != 0 || count != 0 {
			t.Error(g, seq, count, e)
		}
	}
}

func TestJ4Take(t *testing.T) {
	wantNone := func(g api.Geometry, h string, body []string) {
		t.Helper()
		if r, e := record.Take(g, h, body); e != api.ErrRecordForm || !record.Same(r, api.Record{}) {
			t.Error(r.Seq, e)
		}
	}
	r := of(large, 1<<40, 3, 10, 49)
	h, body, _ := record.Lay(large, r)
	for _, padding := range []int{0, 3, 89} {
		got, e := record.Take(large, h+strings.Repeat("\x00", padding), body)
		if e != api.OK || !record.Same(got, r) {
			t.Error(padding, e)
		}
	}
	wantNone(large, h, nil)
	wantNone(large, h, body[:11])
	wantNone(large, h, append(slices.Clone(body), text(1)))
	wantNone(small, h, body)
	wantNone(large, h+"x", body)
	wantNone(large, "", nil)
	wantNone(api.Geometry{}, h, body)
	for i := range len(h) - 4 { // of what a changed head says, nothing is this record
		b := []byte(h)
		b[i] ^= 1
		if got, e := record.Take(large, string(b), body); e == api.OK && record.Same(got, r) {
			t.Error("head", i)
		}
	}
	for i := len(h) - 4; i < len(h); i++ {
		b := []byte(h)
		b[i] ^= 0x10
		wantNone(large, string(b), body)
	}
	// Bytes that move from one string to the next leave the checksum as it is.
	moved := slices.Clone(body)
	moved[0], moved[1] = body[0][:119], body[0][119:]+body[1]
	wantNone(large, h, moved)
	swapped := slices.Clone(body)
	swapped[0], swapped[1] = body[1], body[0]
	wantNone(large, h, swapped)
}

func TestJ5Theorem(t *testing.T) {
	for i, x := range all() {
		if !x.right {
			continue
		}
		h, body, _ := record.Lay(x.g, x.r)
		got, e := record.Take(x.g, h, body)
		if e != api.OK || !record.Same(got, x.r) {
			t.Error(i, e)
		}
	}
	h, body, _ := record.Lay(small, of(small, 5, 2, 3))
	for n := range body {
		for at := range 117 {
			for long := 1; long <= 4; long++ {
				changed := slices.Clone(body)
				b := []byte(body[n])
				for i := range long {
					b[at+i] ^= byte(at + 7*i + 1)
				}
				changed[n] = string(b)
				if changed[n] == body[n] {
					continue
				}
				if _, e := record.Take(small, h, changed); e != api.ErrRecordForm {
					t.Fatal(n, at, long, e)
				}
			}
		}
	}
}

func TestResultsAreNew(t *testing.T) {
	r := of(large, 5, 2, 3)
	h, body, _ := record.Lay(large, r)
	got, _ := record.Take(large, h, body)
	body[0] = "x"
	got.Stripes[1].Data[0] = "y"
	_ = append(got.Stripes[0].Data, "z")
	if got.Stripes[1].Data[0] != "y" || !record.Same(r, of(large, 5, 2, 3)) || got.Stripes[0].Data[0] == "x" || body[4] == "y" {
		t.Error("shared memory")
	}
}
