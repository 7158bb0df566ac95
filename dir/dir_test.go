package dir_test

import (
	"math"
	"slices"
	"strings"
	"testing"

	"stave/api"
	"stave/dir"
)

func named(names ...string) []api.Volume {
	var l []api.Volume
	for i, name := range names {
		l = append(l, api.Volume{Name: name, Size: 100 * i, Root: 3 + i})
	}
	return l
}

func names(l []api.Volume) string {
	var s []string
	for _, v := range l {
		s = append(s, v.Name)
	}
	return strings.Join(s, " ")
}

func TestE1IsName(t *testing.T) {
	for _, s := range []string{"a", "vol1", "z", "z99999", "a0", "abcdef", "m"} {
		if !dir.IsName(s) {
			t.Error(s)
		}
	}
	for _, s := range []string{"", "1a", "A", "toolong", "0", "aB", "a b", "a-", "a\x00", "\x00", "é", "aé", "`", "{", "a`", "a{", "a/", "a:", "abcdefg"} {
		if dir.IsName(s) {
			t.Error(s)
		}
	}
}

func TestE1Right(t *testing.T) {
	one := func(v api.Volume) []api.Volume { return []api.Volume{v} }
	for i, x := range []struct {
		blocks int
		l      []api.Volume
		want   bool
	}{
		{8, nil, true}, {200, []api.Volume{}, true}, {7, nil, false}, {201, nil, false}, {-1, nil, false}, {math.MaxInt, nil, false},
		{8, named("a", "b"), true}, {8, named("b", "a"), false}, {8, named("a", "a"), false}, {8, named("a", "a0", "aa", "b"), true}, {8, named("a", "aa", "a0"), false}, {8, named("A"), false}, {8, named("a", ""), false},
		{20, named("a", "b", "c", "d", "e", "f", "g", "h"), true}, {20, named("a", "b", "c", "d", "e", "f", "g", "h", "i"), false},
		{8, one(api.Volume{Name: "a", Size: 4096, Root: 7}), true}, {8, one(api.Volume{Name: "a", Size: 4097, Root: 7}), false}, {8, one(api.Volume{Name: "a", Size: -1, Root: 7}), false},
		{8, one(api.Volume{Name: "a", Size: 1, Root: 8}), false}, {8, one(api.Volume{Name: "a", Size: 1, Root: 0}), true}, {8, one(api.Volume{Name: "a", Size: 1, Root: 1}), false}, {8, one(api.Volume{Name: "a", Size: 1, Root: 2}), false}, {8, one(api.Volume{Name: "a", Size: 1, Root: 3}), true}, {8, one(api.Volume{Name: "a", Size: 1, Root: -1}), false},
		{200, one(api.Volume{Name: "a", Size: 1, Root: 199}), true}, {200, one(api.Volume{Name: "a", Size: 1, Root: 200}), false}, {200, one(api.Volume{Name: "a", Size: math.MaxInt, Root: 3}), false},
	} {
		if dir.Right(x.blocks, x.l) != x.want {
			t.Error(i, x.l)
		}
		if s, e := dir.Put(x.blocks, x.l); x.want && (e != api.OK || len(s) != 120) || !x.want && (e != api.ErrDirForm || s != "") {
			t.Error("Put", i, e)
		}
	}
}

func TestE1Find(t *testing.T) {
	l := named("b", "a", "b", "c")
	for name, want := range map[string]int{"a": 1, "b": 0, "c": 3, "d": -1, "": -1} {
		if got := dir.Find(l, name); got != want {
			t.Error(name, got)
		}
	}
	if dir.Find(nil, "a") != -1 {
		t.Error("of nothing")
	}
}

func TestE2Add(t *testing.T) {
	v := func(name string) api.Volume { return api.Volume{Name: name, Size: -5, Root: 777} }
	full := named("a", "b", "c", "d", "e", "f", "g", "h")
	for i, x := range []struct {
		l    []api.Volume
		name string
		want string
		e    api.Errno
	}{
		{named("a", "c"), "b", "a b c", api.OK}, {nil, "x", "x", api.OK}, {named("b", "c"), "a", "a b c", api.OK}, {named("a", "b"), "c", "a b c", api.OK}, {named("a", "aa"), "a0", "a a0 aa", api.OK}, {full[:7], "z", "a b c d e f g z", api.OK},
		{named("a", "c"), "a", "", api.ErrDirTwice}, {named("a", "c"), "B", "", api.ErrDirName}, {nil, "", "", api.ErrDirName}, {full, "z", "", api.ErrDirFull}, {named("a", "b", "c", "d", "e", "f", "g", "h", "i"), "z", "", api.ErrDirFull},
		{full, "a", "", api.ErrDirTwice}, {full, "Z", "", api.ErrDirName}, {named("A"), "A", "", api.ErrDirName},
		{named("x", "d", "b"), "c", "c x d b", api.OK}, {named("a", "z", "b"), "c", "a c z b", api.OK}, // lists that are not sorted
	} {
		was := slices.Clone(x.l)
		got, e := dir.Add(x.l, v(x.name))
		if names(got) != x.want || e != x.e || !slices.Equal(was, x.l) {
			t.Error(i, names(got), e)
		}
		if e == api.OK && !slices.Contains(got, v(x.name)) {
			t.Error("not the volume", i)
		}
	}
}

func TestE2ChangeAndRemove(t *testing.T) {
	l := named("a", "c", "b", "c")
	was := slices.Clone(l)
	now := api.Volume{Name: "c", Size: 7, Root: 9}
	got, e := dir.Change(l, now)
	if want := []api.Volume{l[0], now, l[2], l[3]}; e != api.OK || !slices.Equal(got, want) {
		t.Error(got, e)
	}
	first := api.Volume{Name: "a", Size: 8}
	got, e = dir.Change(l, first)
	if want := []api.Volume{first, l[1], l[2], l[3]}; e != api.OK || !slices.Equal(got, want) {
		t.Error(got, e)
	}
	got, e = dir.Remove(l, "c")
	if want := []api.Volume{l[0], l[2], l[3]}; e != api.OK || !slices.Equal(got, want) {
		t.Error(got, e)
	}
	if got, e := dir.Remove(l[:1], "a"); e != api.OK || len(got) != 0 {
		t.Error(got, e)
	}
	for _, l := range [][]api.Volume{l, nil} {
		if got, e := dir.Change(l, api.Volume{Name: "d"}); e != api.ErrDirNone || len(got) != 0 {
			t.Error(got, e)
		}
		if got, e := dir.Remove(l, "d"); e != api.ErrDirNone || len(got) != 0 {
			t.Error(got, e)
		}
	}
	if !slices.Equal(l, was) {
		t.Error("the argument has changed")
	}
}

func pad(s string) string { return s + strings.Repeat("\x00", 120-len(s)) }

func TestE3Put(t *testing.T) {
	l := []api.Volume{{Name: "a", Size: 4096, Root: 199}, {Name: "vol1", Size: 258, Root: 0}, {Name: "zzzzzz", Size: 0, Root: 3}}
	want := pad("POL1\xc8\x03" + "\x01a\x00\x00\x00\x00\x00\x10\x00\xc7" + "\x04vol1\x00\x00\x01\x02\x00" + "\x06zzzzzz\x00\x00\x03")
	if s, e := dir.Put(200, l); e != api.OK || s != want {
		t.Errorf("%q %d", s, e)
	}
	if s, e := dir.Put(8, nil); e != api.OK || s != pad("POL1\x08\x00") {
		t.Errorf("%q %d", s, e)
	}
	blocks, got, e := dir.Get(want)
	if blocks != 200 || !slices.Equal(got, l) || e != api.OK {
		t.Error(blocks, got, e)
	}
	if blocks, got, e := dir.Get(pad("POL1\x08\x00")); blocks != 8 || len(got) != 0 || e != api.OK {
		t.Error(blocks, got, e)
	}
}

func TestE3Get(t *testing.T) {
	good := pad("POL1\x10\x02" + "\x01a\x00\x00\x00\x00\x00\x00\x05\x07" + "\x02bc\x00\x00\x00\x00\x00\x05\x00")
	if _, l, e := dir.Get(good); e != api.OK || len(l) != 2 {
		t.Fatal(l, e)
	}
	bad := []string{"", "P", "POL1", good + "\x00", good + "x", "x" + good, strings.Repeat("\x00", 120), strings.Repeat("\xff", 120), pad("POL2\x10\x00"), pad("POL1\x07\x00"), pad("POL1\xc9\x00"), pad("POL1\x10\x09"), pad("POL1\x10\xff"), pad("POL1\x10\x01")}
	for i := range good {
		bad = append(bad, good[:i])
	}
	entry := func(s string) string { return pad("POL1\x10\x01" + s) }
	bad = append(bad, entry("\x00\x00\x00\x00\x00\x00\x00\x00\x05\x07"), entry("\x07abcdef\x00\x05\x07"), entry("\xffabcdef\x00\x05\x07"), entry("\x01ab\x00\x00\x00\x00\x00\x05\x07"), entry("\x03ab\x00\x00\x00\x00\x00\x05\x07"), entry("\x01A\x00\x00\x00\x00\x00\x00\x05\x07"), entry("\x01a\x00\x00\x00\x00\x00\x10\x01\x07"), entry("\x01a\x00\x00\x00\x00\x00\x00\x05\x10"), entry("\x01a\x00\x00\x00\x00\x00\x00\x05\x01"), good[:119]+"\x01", good[:30]+"x"+good[31:])
	bad = append(bad, pad("POL1\x10\x02"+"\x02bc\x00\x00\x00\x00\x00\x05\x00"+"\x01a\x00\x00\x00\x00\x00\x00\x05\x07"), pad("POL1\x10\x02"+"\x01a\x00\x00\x00\x00\x00\x00\x05\x00"+"\x01a\x00\x00\x00\x00\x00\x00\x05\x07"), pad("POL1\x10\x01"+good[6:26]))
	for i, s := range bad {
		if blocks, l, e := dir.Get(s); blocks != 0 || len(l) != 0 || e != api.ErrDirForm {
			t.Errorf("%d %q: %d %v %d", i, s, blocks, l, e)
		}
	}
	// Whatever is read is what encodes to it.
	for at := range 40 {
		for b := range 256 {
			s := good[:at] + string([]byte{byte(b)}) + good[at+1:]
			blocks, l, e := dir.Get(s)
			if e != api.OK {
				continue
			}
			if back, e := dir.Put(blocks, l); e != api.OK || back != s {
				t.Fatalf("%q", s)
			}
		}
	}
}

func TestE4Theorem(t *testing.T) {
	all := named("a", "b0", "b1", "c", "dd", "ee", "fff", "z")
	orders := [][]int{{0, 1, 2, 3, 4, 5, 6, 7}, {7, 6, 5, 4, 3, 2, 1, 0}, {3, 0, 7, 5, 1, 6, 2, 4}}
	for _, order := range orders {
		var l []api.Volume
		for _, i := range order {
			before := l
			var e api.Errno
			if l, e = dir.Add(l, all[i]); e != api.OK || !dir.Right(50, l) || l[dir.Find(l, all[i].Name)] != all[i] {
				t.Fatal(order, i, e)
			}
			for _, v := range before {
				if l[dir.Find(l, v.Name)] != v {
					t.Fatal("another one is not found", v)
				}
			}
			if back, e := dir.Remove(l, all[i].Name); e != api.OK || !slices.Equal(back, before) || dir.Find(back, all[i].Name) != -1 {
				t.Fatal("Remove does not undo Add", e)
			}
			s, _ := dir.Put(50, l)
			if blocks, back, e := dir.Get(s); blocks != 50 || !slices.Equal(back, l) || e != api.OK {
				t.Fatal("Get does not invert Put", e)
			}
		}
		if !slices.Equal(l, all) {
			t.Fatal("the order matters", l)
		}
	}
}

func TestResultsAreNew(t *testing.T) {
	l := make([]api.Volume, 2, 10)
	copy(l, named("a", "c"))
	behind := l[:10]
	one, _ := dir.Add(l, api.Volume{Name: "d"})
	two, _ := dir.Change(l, api.Volume{Name: "c", Size: 9})
	three, _ := dir.Remove(l, "a")
	for _, x := range [][]api.Volume{one, two, three} {
		x[0].Size = 999
		_ = append(x, api.Volume{Name: "y"})
	}
	if !slices.Equal(l, named("a", "c")) || behind[2] != (api.Volume{}) {
		t.Error("shared memory", behind)
	}
}
