package pack_test

import (
	"math"
	"strings"
	"testing"

	"stave/api"
	"stave/pack"
)

func num(t *testing.T, n, width int) string {
	t.Helper()
	s, e := pack.Num(n, width)
	if e != api.OK {
		t.Fatal("Num", n, width, e)
	}
	return s
}

func TestP1Num(t *testing.T) {
	for _, x := range []struct {
		n, width int
		want     string
	}{
		{258, 2, "\x01\x02"}, {0, 1, "\x00"}, {255, 1, "\xff"}, {0, 7, "\x00\x00\x00\x00\x00\x00\x00"}, {65535, 2, "\xff\xff"}, {1, 3, "\x00\x00\x01"},
		{1<<56 - 1, 7, "\xff\xff\xff\xff\xff\xff\xff"}, {1 << 40, 6, "\x01\x00\x00\x00\x00\x00"}, {0x01020304050607, 7, "\x01\x02\x03\x04\x05\x06\x07"}, {1<<48 - 1, 6, "\xff\xff\xff\xff\xff\xff"},
	} {
		if got := num(t, x.n, x.width); got != x.want {
			t.Errorf("Num(%d, %d) is %q", x.n, x.width, got)
		}
	}
	wrong := [][2]int{{-1, 3}, {1, 8}, {1, 0}, {0, 0}, {1, -1}, {0, math.MinInt}, {0, math.MaxInt}, {math.MinInt, 7}, {math.MaxInt, 7}, {0, 8}}
	for width := 1; width <= 7; width++ {
		wrong = append(wrong, [2]int{1 << (8 * width), width})
		num(t, 1<<(8*width)-1, width)
	}
	for _, x := range wrong {
		if got, e := pack.Num(x[0], x[1]); got != "" || e != api.ErrPackForm {
			t.Errorf("Num(%d, %d) is %q, %d", x[0], x[1], got, e)
		}
	}
}

func TestP1Fill(t *testing.T) {
	for _, x := range []struct {
		s    string
		long int
		want string
	}{{"a", 3, "a\x00\x00"}, {"", 0, ""}, {"abc", 3, "abc"}, {"", 2, "\x00\x00"}} {
		if got, e := pack.Fill(x.s, x.long); got != x.want || e != api.OK {
			t.Errorf("Fill(%q, %d) is %q, %d", x.s, x.long, got, e)
		}
	}
	if got, e := pack.Fill("z", 4096); got != "z"+strings.Repeat("\x00", 4095) || e != api.OK {
		t.Error("4096", e)
	}
	long := strings.Repeat("y", 4096)
	if got, e := pack.Fill(long, 4096); got != long || e != api.OK {
		t.Error("full", e)
	}
	for _, x := range []struct {
		s    string
		long int
	}{{"a", 0}, {"abc", 2}, {"", -1}, {"", 4097}, {"a", math.MaxInt}, {"a", math.MinInt}, {long + "y", 4097}} {
		if got, e := pack.Fill(x.s, x.long); got != "" || e != api.ErrPackForm {
			t.Errorf("Fill(%d, %d) is %q, %d", len(x.s), x.long, got, e)
		}
	}
}

func TestP2Reader(t *testing.T) {
	r := pack.New("\x01\x02a\x00")
	if r.Left() != 4 || r.Bad() || r.Ends() {
		t.Error("new", r.Left(), r.Bad(), r.Ends())
	}
	if n := r.Num(2); n != 258 {
		t.Error("Num", n)
	}
	if s := r.Text(1); s != "a" || r.Left() != 1 || !r.Ends() || r.Bad() {
		t.Error("Text", s, r.Left(), r.Ends(), r.Bad())
	}
	if n := r.Num(2); n != 0 || !r.Bad() || r.Ends() || r.Left() != 1 {
		t.Error("Num beyond the end", n, r.Bad(), r.Ends(), r.Left())
	}
	if n := r.Num(1); n != 0 || r.Text(1) != "" || r.Text(0) != "" || r.Left() != 1 || !r.Bad() {
		t.Error("after the failure", n, r.Left())
	}
	if n := pack.New("\xff\xff\xff\xff\xff\xff\xff").Num(7); n != 1<<56-1 {
		t.Error("the greatest", n)
	}
	if s := pack.New("a\xffb").Text(3); s != "a\xffb" {
		t.Errorf("%q", s)
	}
}

func TestP2Failures(t *testing.T) {
	for i, fail := range []func(r *pack.Reader){
		func(r *pack.Reader) { r.Num(0) }, func(r *pack.Reader) { r.Num(-1) }, func(r *pack.Reader) { r.Num(8) }, func(r *pack.Reader) { r.Num(math.MaxInt) }, func(r *pack.Reader) { r.Num(math.MinInt) },
		func(r *pack.Reader) { r.Text(-1) }, func(r *pack.Reader) { r.Text(11) }, func(r *pack.Reader) { r.Text(math.MaxInt) }, func(r *pack.Reader) { r.Text(math.MinInt) },
		func(r *pack.Reader) { r.Text(4); r.Num(7) },
	} {
		r := pack.New(strings.Repeat("\x01", 10))
		fail(r)
		left := r.Left()
		if !r.Bad() || r.Ends() || left != 10 && left != 6 {
			t.Error(i, r.Bad(), left)
		}
		if r.Num(1) != 0 || r.Text(1) != "" || r.Left() != left || !r.Bad() {
			t.Error("goes on", i)
		}
	}
	r := pack.New("")
	if r.Text(0) != "" || r.Bad() || !r.Ends() || r.Left() != 0 {
		t.Error("empty")
	}
	if r.Num(1) != 0 || !r.Bad() || r.Ends() {
		t.Error("a number of nothing")
	}
	full := pack.New("abc")
	if full.Text(3) != "abc" || full.Bad() || !full.Ends() {
		t.Error("all of it")
	}
	if full.Text(1) != "" || !full.Bad() {
		t.Error("one more")
	}
}

func TestP2Ends(t *testing.T) {
	for s, want := range map[string]bool{"": true, "\x00": true, "\x00\x00\x00": true, "\x00\x01": false, "\x01\x00": false, "\x00a\x00": false, "0": false} {
		r := pack.New(s)
		if r.Ends() != want || r.Left() != len(s) {
			t.Errorf("%q", s)
		}
	}
}

func TestP3ReadsBack(t *testing.T) {
	for _, padding := range []int{0, 1, 50} {
		text := num(t, 7, 1) + "hello" + num(t, 1<<40, 6) + num(t, 0, 3) + "" + "\x00x"
		text, e := pack.Fill(text, len(text)+padding)
		if e != api.OK {
			t.Fatal(e)
		}
		r, other := pack.New(text), pack.New(text)
		if r.Num(1) != 7 || r.Text(5) != "hello" || r.Num(6) != 1<<40 || r.Num(3) != 0 || r.Text(0) != "" || r.Text(2) != "\x00x" || !r.Ends() || r.Bad() || r.Left() != padding {
			t.Error(padding)
		}
		if other.Left() != len(text) || other.Num(1) != 7 {
			t.Error("Readers are not independent")
		}
	}
}
