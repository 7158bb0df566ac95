package crc_test

import (
	"hash/crc32"
	"strings"
	"testing"

	"stave/crc"
)

// text is bytes that look random, the same in each run.
func text(seed, length int) string {
	state := uint64(seed)*2654435761 + 12345
	b := make([]byte, length)
	for i := range b {
		state = state*6364136223846793005 + 1442695040888963407
		b[i] = byte(state >> 40)
	}
	return string(b)
}

func TestC1Sum(t *testing.T) {
	for s, want := range map[string]uint32{"123456789": 0xe3069283, "": 0, "a": 0xc1d04330} {
		if got := crc.Sum(s); got != want {
			t.Errorf("%q: %x, not %x", s, got, want)
		}
	}
	table := crc32.MakeTable(crc32.Castagnoli)
	for length := range 300 {
		s := text(length, length)
		if got := crc.Sum(s); got != crc32.Checksum([]byte(s), table) {
			t.Fatalf("%q: %x", s, got)
		}
	}
}

func TestC1States(t *testing.T) {
	if crc.Begin() != 0xffffffff {
		t.Errorf("%x", crc.Begin())
	}
	for _, s := range []uint32{0, 1, 0xffffffff, 0x80000000, 0x12345678} {
		if crc.End(s) != ^s {
			t.Errorf("End %x", s)
		}
		if crc.Go(s, "") != s {
			t.Errorf("Go of nothing %x", s)
		}
		for b := range 256 {
			want := s ^ uint32(b)
			for range 8 {
				if want&1 == 1 {
					want = want>>1 ^ 0x82f63b78
				} else {
					want >>= 1
				}
			}
			if got := crc.Go(s, string([]byte{byte(b)})); got != want {
				t.Fatalf("Go %x %d: %x, not %x", s, b, got, want)
			}
		}
	}
	if crc.Go(0, "\x01") == 0 || crc.Go(0, "\x00") != 0 {
		t.Error("from the state 0")
	}
}

func TestC2Parts(t *testing.T) {
	s := text(1, 200)
	for i := range len(s) + 1 {
		if crc.End(crc.Go(crc.Go(crc.Begin(), s[:i]), s[i:])) != crc.Sum(s) {
			t.Fatal(i)
		}
	}
}

func TestC2Runs(t *testing.T) {
	s := text(2, 40)
	for bit := range 8*len(s) - 32 {
		for _, run := range []uint64{1, 3, 0xff, 0x80000001, 0xffffffff, 0xdeadbeef | 1} {
			b := []byte(s)
			for i := range 32 {
				if run>>i&1 == 1 {
					b[(bit+i)/8] ^= 1 << ((bit + i) % 8)
				}
			}
			if crc.Sum(string(b)) == crc.Sum(s) {
				t.Fatal("the same sum", bit, run)
			}
		}
	}
}

func TestC2FourSums(t *testing.T) {
	for seed := range 50 {
		a, b, c := text(seed, seed), text(seed+100, seed), text(seed+200, seed)
		var d strings.Builder
		for i := range seed {
			d.WriteByte(a[i] ^ b[i] ^ c[i])
		}
		if crc.Sum(a)^crc.Sum(b)^crc.Sum(c)^crc.Sum(d.String()) != 0 {
			t.Fatal(seed)
		}
	}
}
