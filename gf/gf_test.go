package gf_test

import (
	"math"
	"strings"
	"testing"

	"stave/api"
	"stave/gf"
)

// product multiplies the polynomials bit by bit, which the tables of the package do not do.
func product(a, b byte) byte {
	var p int
	for i := 0; i < 8; i++ {
		if b>>i&1 == 1 {
			p ^= int(a) << i
		}
	}
	for i := 15; i >= 8; i-- {
		if p>>i&1 == 1 {
			p ^= 0x11d << (i - 8)
		}
	}
	return byte(p)
}

func TestG1AddAndMul(t *testing.T) {
	if gf.Mul(2, 128) != 29 {
		t.Error("Mul(2, 128)", gf.Mul(2, 128))
	}
	for a := 0; a < 256; a++ {
		for b := 0; b < 256; b++ {
			x, y := byte(a), byte(b)
			if gf.Add(x, y) != x^y {
				t.Fatal("Add", a, b, gf.Add(x, y))
			}
			if gf.Mul(x, y) != product(x, y) {
				t.Fatal("Mul", a, b, gf.Mul(x, y))
			}
		}
	}
}

func TestInvAndDiv(t *testing.T) {
	if b, e := gf.Inv(2); b != 142 || e != api.OK {
		t.Error("Inv(2)", b, e)
	}
	if b, e := gf.Inv(0); b != 0 || e != api.ErrGfZero {
		t.Error("Inv(0)", b, e)
	}
	for a := 1; a < 256; a++ {
		inverse, e := gf.Inv(byte(a))
		if e != api.OK || product(byte(a), inverse) != 1 {
			t.Fatal("Inv", a, inverse, e)
		}
		for b := 0; b < 256; b++ {
			q, e := gf.Div(byte(b), byte(a))
			if e != api.OK || product(q, byte(a)) != byte(b) {
				t.Fatal("Div", b, a, q, e)
			}
		}
	}
	for a := 0; a < 256; a++ {
		if q, e := gf.Div(byte(a), 0); q != 0 || e != api.ErrGfZero {
			t.Fatal("Div by 0", a, q, e)
		}
	}
}

func TestG2ExpAndLog(t *testing.T) {
	for n, want := range map[int]byte{0: 1, 1: 2, 7: 128, 8: 29, 254: 142, 255: 1, 256: 2, -1: 142, -254: 2, -255: 1, -256: 142} {
		if got := gf.Exp(n); got != want {
			t.Error("Exp", n, got, want)
		}
	}
	power := byte(1)
	for n := 0; n < 255; n++ {
		for _, m := range []int{n, n - 255, n + 255, n + 255*1000003, n - 255*1000003} {
			if gf.Exp(m) != power {
				t.Fatal("Exp", m, gf.Exp(m), power)
			}
		}
		if got, e := gf.Log(power); got != n || e != api.OK {
			t.Fatal("Log", power, got, e)
		}
		power = product(power, 2)
	}
	if n, e := gf.Log(3); n != 25 || e != api.OK {
		t.Error("Log(3)", n, e)
	}
	if n, e := gf.Log(0); n != 0 || e != api.ErrGfZero {
		t.Error("Log(0)", n, e)
	}
	for _, n := range []int{math.MaxInt, math.MinInt} {
		r := (n%255 + 255) % 255
		if gf.Exp(n) != gf.Exp(r) {
			t.Error("Exp", n)
		}
	}
}

func TestG3MulAdd(t *testing.T) {
	if got := gf.MulAdd("ab", 1, "ab"); got != "\x00\x00" {
		t.Errorf("%q", got)
	}
	for _, x := range []struct {
		y    string
		c    byte
		x    string
		want string
	}{
		{"", 7, "abc", ""},
		{"abc", 7, "", "abc"},
		{"abc", 0, "xyz", "abc"},
		{"a", 1, "abc", "\x00"},
		{"\x01\x02\x03", 2, "\x80\x01", "\x1c\x00\x03"},
		{"\x00\xff", 1, "\xff\x00", "\xff\xff"},
	} {
		if got := gf.MulAdd(x.y, x.c, x.x); got != x.want {
			t.Errorf("MulAdd(%q, %d, %q) is %q, not %q", x.y, x.c, x.x, got, x.want)
		}
	}
	var all strings.Builder
	for i := 0; i < 256; i++ {
		all.WriteByte(byte(i))
	}
	for c := 0; c < 256; c++ {
		got := gf.MulAdd(strings.Repeat("\x5a", 256), byte(c), all.String())
		for i := 0; i < 256; i++ {
			if got[i] != 0x5a^product(byte(c), byte(i)) {
				t.Fatal(c, i, got[i])
			}
		}
	}
}

func TestG4Field(t *testing.T) {
	for a := 0; a < 256; a++ {
		inverses := 0
		for b := 0; b < 256; b++ {
			x, y := byte(a), byte(b)
			if gf.Mul(x, y) != gf.Mul(y, x) || gf.Add(x, y) != gf.Add(y, x) {
				t.Fatal("not commutative", a, b)
			}
			if gf.Mul(x, y) == 1 {
				inverses++
			}
			for c := 0; c < 256; c += 5 {
				z := byte(c)
				if gf.Mul(gf.Mul(x, y), z) != gf.Mul(x, gf.Mul(y, z)) || gf.Add(gf.Add(x, y), z) != gf.Add(x, gf.Add(y, z)) {
					t.Fatal("not associative", a, b, c)
				}
				if gf.Mul(x, gf.Add(y, z)) != gf.Add(gf.Mul(x, y), gf.Mul(x, z)) {
					t.Fatal("not distributive", a, b, c)
				}
			}
		}
		if a > 0 && inverses != 1 || a == 0 && inverses != 0 {
			t.Fatal("inverses", a, inverses)
		}
	}
	for c := 0; c < 256; c++ {
		if got := gf.MulAdd(gf.MulAdd("hello", byte(c), "world!"), byte(c), "world!"); got != "hello" {
			t.Fatalf("%d: %q", c, got)
		}
	}
}
