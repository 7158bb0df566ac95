package member_test

import (
	"math"
	"slices"
	"strings"
	"testing"

	"stave/api"
	"stave/member"
)

func fresh(t *testing.T, sectors int) *member.Member {
	t.Helper()
	d, e := member.New(sectors)
	if e != api.OK || d == nil {
		t.Fatal("New", sectors, e)
	}
	return d
}

func full(c string) string { return strings.Repeat(c, 128) }

var zero = full("\x00")

func write(t *testing.T, d *member.Member, n int, s string) {
	t.Helper()
	if e := d.Write(n, s); e != api.OK {
		t.Fatal("Write", n, e)
	}
}

func wantRead(t *testing.T, d *member.Member, n int, want string) {
	t.Helper()
	if got, e := d.Read(n); e != api.OK || got != want {
		t.Fatalf("Read %d: %.4q.. %d, not %.4q..", n, got, e, want)
	}
}

func wantDurable(t *testing.T, d *member.Member, n int, want string) {
	t.Helper()
	if got := d.Image()[n]; got != want {
		t.Fatalf("durable %d: %.4q.., not %.4q..", n, got, want)
	}
}

func TestD1New(t *testing.T) {
	for _, n := range []int{0, -1, 257, math.MaxInt, math.MinInt} {
		if d, e := member.New(n); d != nil || e != api.ErrArg {
			t.Error(n, e)
		}
	}
	for _, n := range []int{1, 2, 256} {
		d := fresh(t, n)
		if d.Size() != n || !d.Alive() || len(d.Pending()) != 0 || len(d.Image()) != n {
			t.Error(n, d.Size(), d.Alive())
		}
		for i := range n {
			wantRead(t, d, i, zero)
			wantDurable(t, d, i, zero)
			if d.Versions(i) != 0 {
				t.Error("versions", i)
			}
		}
	}
}

func TestD2ReadWriteFlush(t *testing.T) {
	d := fresh(t, 4)
	write(t, d, 2, full("A"))
	wantRead(t, d, 2, full("A"))
	wantDurable(t, d, 2, zero)
	write(t, d, 2, full("B"))
	write(t, d, 0, full("C"))
	wantRead(t, d, 2, full("B"))
	wantRead(t, d, 1, zero)
	if e := d.Flush(); e != api.OK {
		t.Error(e)
	}
	if len(d.Pending()) != 0 || d.Versions(2) != 0 {
		t.Error("still pending")
	}
	wantDurable(t, d, 2, full("B"))
	wantDurable(t, d, 0, full("C"))
	wantDurable(t, d, 1, zero)
	wantRead(t, d, 2, full("B"))
	write(t, d, 2, full("D"))
	wantRead(t, d, 2, full("D"))
	wantDurable(t, d, 2, full("B"))
	if e := d.Flush(); e != api.OK || d.Flush() != api.OK {
		t.Error(e)
	}
	wantDurable(t, d, 2, full("D"))
}

func TestD2WrongArguments(t *testing.T) {
	d := fresh(t, 4)
	for _, n := range []int{-1, 4, 5, math.MaxInt, math.MinInt} {
		if s, e := d.Read(n); s != "" || e != api.ErrMemberRange {
			t.Error("Read", n, e)
		}
		if e := d.Write(n, full("A")); e != api.ErrMemberRange {
			t.Error("Write", n, e)
		}
	}
	for _, s := range []string{"", "A", full("A")[1:], full("A") + "A"} {
		if e := d.Write(0, s); e != api.ErrMemberRange {
			t.Error("Write", len(s), e)
		}
	}
	if len(d.Pending()) != 0 {
		t.Error("something was written")
	}
	d.Fail()
	for _, n := range []int{0, 4, -1} {
		if s, e := d.Read(n); s != "" || e != api.ErrMemberDead {
			t.Error("Read", n, e)
		}
		if e := d.Write(n, full("A")); e != api.ErrMemberDead {
			t.Error("Write", n, e)
		}
	}
	if e := d.Write(0, ""); e != api.ErrMemberDead {
		t.Error("Write of nothing", e)
	}
	if e := d.Flush(); e != api.ErrMemberDead {
		t.Error("Flush", e)
	}
}

func TestD3Pending(t *testing.T) {
	d := fresh(t, 20)
	for _, n := range []int{17, 3, 9, 3, 0, 3} {
		write(t, d, n, full("x"))
	}
	if got := d.Pending(); !slices.Equal(got, []int{0, 3, 9, 17}) {
		t.Error(got)
	}
	for n, want := range map[int]int{3: 3, 0: 1, 17: 1, 9: 1, 1: 0, -1: 0, 20: 0, math.MaxInt: 0, math.MinInt: 0} {
		if d.Versions(n) != want {
			t.Error("Versions", n, d.Versions(n))
		}
	}
	d.Pending()[0] = 5
	if got := d.Pending(); !slices.Equal(got, []int{0, 3, 9, 17}) {
		t.Error("Pending is not new memory", got)
	}
}

func TestD3Crash(t *testing.T) {
	d := fresh(t, 4)
	write(t, d, 2, full("A"))
	d.Crash(nil)
	wantRead(t, d, 2, zero)
	if len(d.Pending()) != 0 {
		t.Error("still pending")
	}
	write(t, d, 2, full("A"))
	write(t, d, 2, full("B"))
	d.Crash([]int{1})
	wantDurable(t, d, 2, full("A"))
	wantRead(t, d, 2, full("A"))
	// With two versions there are three choices.
	for c, want := range map[int]string{0: "Z", 1: "A", 2: "B", 3: "Z", 4: "A", 302: "B", -1: "Z", -2: "A", -3: "B", -4: "Z", math.MaxInt: []string{"Z", "A", "B"}[math.MaxInt%3], math.MinInt: []string{"Z", "A", "B"}[math.MaxInt%3]} {
		d := fresh(t, 4)
		write(t, d, 3, full("Z"))
		d.Flush()
		write(t, d, 3, full("A"))
		write(t, d, 3, full("B"))
		d.Crash([]int{c, 1, 1})
		wantDurable(t, d, 3, full(want))
		wantRead(t, d, 3, full(want))
	}
	// Each sector that is pending has a choice of its own, in ascending order; the rest keep nothing.
	write(t, d, 3, full("p"))
	write(t, d, 1, full("q"))
	write(t, d, 0, full("r"))
	choice := []int{0, 1}
	d.Crash(choice)
	wantDurable(t, d, 0, zero)
	wantDurable(t, d, 1, full("q"))
	wantDurable(t, d, 3, zero)
	wantDurable(t, d, 2, full("A"))
	if !slices.Equal(choice, []int{0, 1}) {
		t.Error("choice changed")
	}
	d.Crash([]int{5, 5})
	wantDurable(t, d, 1, full("q"))
}

func TestD4FailAndBlank(t *testing.T) {
	d := fresh(t, 4)
	write(t, d, 1, full("A"))
	d.Flush()
	write(t, d, 2, full("B"))
	d.Fail()
	if d.Alive() || d.Size() != 4 || len(d.Image()) != 0 || len(d.Pending()) != 0 || d.Versions(2) != 0 {
		t.Error("after Fail")
	}
	d.Crash([]int{1, 1})
	if d.Alive() {
		t.Error("a crash revives nothing")
	}
	d.Blank()
	if !d.Alive() || d.Size() != 4 || len(d.Pending()) != 0 {
		t.Error("after Blank")
	}
	for n := range 4 {
		wantRead(t, d, n, zero)
		wantDurable(t, d, n, zero)
	}
	write(t, d, 1, full("A"))
	d.Flush()
	write(t, d, 2, full("B"))
	d.Blank()
	if !d.Alive() || len(d.Pending()) != 0 {
		t.Error("after Blank of one that is alive")
	}
	for n := range 4 {
		wantRead(t, d, n, zero)
		wantDurable(t, d, n, zero)
	}
}

func TestD4Rot(t *testing.T) {
	d := fresh(t, 4)
	write(t, d, 1, full("A"))
	d.Flush()
	for _, x := range [][3]int{{1, 0, 1}, {1, 127, 255}, {0, 5, 128}, {3, 0, 1}} {
		before := d.Image()[x[0]]
		if !d.Rot(x[0], x[1], x[2]) {
			t.Error(x)
		}
		want := []byte(before)
		want[x[1]] ^= byte(x[2])
		wantDurable(t, d, x[0], string(want))
		wantRead(t, d, x[0], string(want))
	}
	write(t, d, 2, full("B"))
	before := d.Image()
	for _, x := range [][3]int{{-1, 0, 1}, {4, 0, 1}, {2, 0, 1}, {1, -1, 1}, {1, 128, 1}, {1, 0, 0}, {1, 0, 256}, {1, 0, -1}, {math.MaxInt, 0, 1}, {1, math.MinInt, 1}, {1, 0, math.MaxInt}} {
		if d.Rot(x[0], x[1], x[2]) {
			t.Error(x)
		}
	}
	if !slices.Equal(before, d.Image()) {
		t.Error("something changed")
	}
	d.Flush()
	if !d.Rot(2, 0, 1) {
		t.Error("after the flush")
	}
	d.Fail()
	if d.Rot(1, 0, 1) {
		t.Error("after Fail")
	}
	d.Blank()
	wantRead(t, d, 1, zero)
}

func TestD4Image(t *testing.T) {
	d := fresh(t, 2)
	write(t, d, 1, full("A"))
	d.Flush()
	image := d.Image()
	image[1] = "x"
	if !slices.Equal(d.Image(), []string{zero, full("A")}) {
		t.Error("Image is not new memory")
	}
}

func TestD5Crashes(t *testing.T) {
	d, other := fresh(t, 3), fresh(t, 3)
	held := []string{zero, zero, zero}
	for round := range 200 {
		versions := make([][]string, 3)
		for i := range round % 7 {
			n := (round + i*i) % 3
			s := full(string([]byte{byte(round), byte(i)}))[:128]
			write(t, d, n, s)
			versions[n] = append(versions[n], s)
			wantRead(t, d, n, s)
		}
		if round%5 == 0 {
			d.Flush()
			for n := range 3 {
				if len(versions[n]) > 0 {
					held[n] = versions[n][len(versions[n])-1]
				}
			}
			continue
		}
		d.Crash([]int{round, round / 2, -round})
		for n := range 3 {
			got, _ := d.Read(n)
			if got != held[n] && !slices.Contains(versions[n], got) {
				t.Fatal("neither what was durable nor what was pending", round, n)
			}
			held[n] = got
		}
	}
	for n := range 3 {
		wantRead(t, other, n, zero)
	}
}
