package sector_test

import (
	"hash/crc32"
	"math"
	"strings"
	"testing"

	"stave/api"
	"stave/sector"
)

func seal(t *testing.T, id, slot, at int, payload string) string {
	t.Helper()
	s, e := sector.Seal(id, slot, at, payload)
	if e != api.OK || len(s) != 128 {
		t.Fatal("Seal", id, slot, at, len(payload), e, len(s))
	}
	return s
}

func zeros(n int) string { return strings.Repeat("\x00", n) }

func TestS1Seal(t *testing.T) {
	s := seal(t, 1, 0, 3, "a")
	if s[0] != 97 || s[120:124] != "\x00\x01\x00\x03" {
		t.Errorf("%q", s)
	}
	table := crc32.MakeTable(crc32.Castagnoli)
	for _, x := range []struct {
		id, slot, at int
		payload      string
	}{{1, 0, 0, ""}, {65535, 6, 255, strings.Repeat("p", 120)}, {258, 3, 128, "\x00x"}, {256, 1, 1, strings.Repeat("q", 119)}} {
		s := seal(t, x.id, x.slot, x.at, x.payload)
		want := x.payload + zeros(120-len(x.payload)) + string([]byte{byte(x.id >> 8), byte(x.id), byte(x.slot), byte(x.at)})
		sum := crc32.Checksum([]byte(want), table)
		want += string([]byte{byte(sum >> 24), byte(sum >> 16), byte(sum >> 8), byte(sum)})
		if s != want {
			t.Errorf("%v: %q, not %q", x, s, want)
		}
	}
}

func TestS1WrongArguments(t *testing.T) {
	for _, x := range []struct {
		id, slot, at, long int
	}{
		{0, 0, 0, 0}, {-1, 0, 0, 0}, {65536, 0, 0, 0}, {65537, 0, 0, 0}, {math.MinInt, 0, 0, 0}, {math.MaxInt, 0, 0, 0},
		{1, -1, 0, 0}, {1, 7, 0, 0}, {1, 256, 0, 0}, {1, 0, -1, 0}, {1, 0, 256, 0}, {1, 0, 0, 121}, {1, 0, 0, 128}, {1, 0, 0, 5000},
	} {
		if s, e := sector.Seal(x.id, x.slot, x.at, strings.Repeat("x", x.long)); s != "" || e != api.ErrSectorForm {
			t.Error(x, e)
		}
	}
}

func TestS2Open(t *testing.T) {
	s := seal(t, 1, 0, 3, "a")
	if p, ok := sector.Open(1, 0, 3, s); !ok || p != "a"+zeros(119) {
		t.Errorf("%q %v", p, ok)
	}
	for _, x := range [][3]int{{1, 0, 4}, {1, 0, 2}, {1, 1, 3}, {2, 0, 3}, {257, 0, 3}, {0, 0, 3}, {1, -1, 3}, {1, 256, 3}, {1, 0, 259}, {65537, 0, 3}, {-65535, 0, 3}} {
		if p, ok := sector.Open(x[0], x[1], x[2], s); ok || p != "" {
			t.Error(x, ok)
		}
	}
	for _, x := range []string{"", "a", s[:127], s + "\x00", s[1:], zeros(128), zeros(120), strings.Repeat("\xff", 128), s[:124] + zeros(4)} {
		if p, ok := sector.Open(1, 0, 3, x); ok || p != "" {
			t.Errorf("%q opens", x)
		}
	}
}

func TestS3OnlyItsOwnPlace(t *testing.T) {
	payload := strings.Repeat("xyz", 40)
	for slot := range 7 {
		s := seal(t, 300, slot, 17, payload)
		for id := 1; id <= 65535; id += 13 {
			if p, ok := sector.Open(id, slot, 17, s); ok != (id == 300) || ok && p != payload {
				t.Fatal("id", id)
			}
		}
		if _, ok := sector.Open(300, slot, 17, s); !ok {
			t.Fatal("its own")
		}
		for other := range 7 {
			for at := range 256 {
				if _, ok := sector.Open(300, other, at, s); ok != (other == slot && at == 17) {
					t.Fatal(slot, other, at)
				}
			}
		}
	}
}

func TestS3Damage(t *testing.T) {
	s := seal(t, 513, 2, 70, "some payload")
	check := func(b []byte, where ...int) {
		t.Helper()
		if _, ok := sector.Open(513, 2, 70, string(b)); ok {
			t.Fatal("opens", where)
		}
	}
	for at := range 128 {
		for bits := 1; bits < 256; bits++ {
			b := []byte(s)
			b[at] ^= byte(bits)
			check(b, at, bits)
		}
		for long := 2; long <= 4; long++ {
			if at+long > 128 || at < 124 && at+long > 124 {
				continue
			}
			for _, bits := range []byte{1, 0x80, 0xff, 0x5a} {
				b := []byte(s)
				for i := range long {
					b[at+i] ^= bits + byte(i*3)
				}
				check(b, at, long)
			}
		}
	}
	for at := range 256 {
		if _, ok := sector.Open(1, 0, at, zeros(128)); ok {
			t.Fatal("zero bytes open", at)
		}
	}
}
