package command_test

import (
	"math"
	"strings"
	"testing"

	"stave/api"
	"stave/command"
)

// good are commands that are valid, with their encodings.
func good() map[string]api.Command {
	long := strings.Repeat("n", 20)
	data := strings.Repeat("d\x00\xff", 200)
	most := "\x01\x00\x00\x00\x00\x00"
	return map[string]api.Command{
		"\x02\x02ab":                           {Op: api.OpDelete, Name: "ab"},
		"\x09":                                 {Op: api.OpStat},
		"\x08":                                 {Op: api.OpList},
		"\x02\x00":                             {Op: api.OpDelete},
		"\x01\x01a\x00\x00\x00\x00\x01\x02":    {Op: api.OpCreate, Name: "a", Count: 258},
		"\x01\x14" + long + most:               {Op: api.OpCreate, Name: long, Count: 1 << 40},
		"\x04\x01\xff\x00\x00\x00\x00\x00\x00": {Op: api.OpResize, Name: "\xff"},
		"\x03\x01a\x14" + long:                 {Op: api.OpSnap, Name: "a", Other: long},
		"\x03\x00\x00":                         {Op: api.OpSnap},
		"\x05\x01a" + most + "\x02\x58" + data: {Op: api.OpWrite, Name: "a", At: 1 << 40, Data: data},
		"\x05\x01a\x00\x00\x00\x00\x00\x03\x00\x01x":    {Op: api.OpWrite, Name: "a", At: 3, Data: "x"},
		"\x05\x00\x00\x00\x00\x00\x00\x00\x00\x00":      {Op: api.OpWrite},
		"\x06\x01a\x00\x00\x00\x00\x00\x05" + most:      {Op: api.OpRead, Name: "a", At: 5, Count: 1 << 40},
		"\x07\x01a" + most + "\x00\x00\x00\x00\x00\x05": {Op: api.OpDiscard, Name: "a", At: 1 << 40, Count: 5},
	}
}

// wrong are commands that are not valid.
func wrong() []api.Command {
	long := strings.Repeat("n", 21)
	list := []api.Command{
		{}, {Op: -1}, {Op: 10}, {Op: math.MaxInt}, {Op: math.MinInt}, {Op: 256 + 9}, {Op: 0, Name: "a"},
		{Op: api.OpDelete, Name: long}, {Op: api.OpSnap, Name: "a", Other: long}, {Op: api.OpCreate, Name: long},
		{Op: api.OpCreate, Name: "a", Count: -1}, {Op: api.OpCreate, Name: "a", Count: 1<<40 + 1}, {Op: api.OpRead, Name: "a", At: -1, Count: 1}, {Op: api.OpRead, Name: "a", At: 1<<40 + 1}, {Op: api.OpDiscard, Name: "a", At: math.MaxInt}, {Op: api.OpDiscard, Name: "a", Count: math.MinInt},
		{Op: api.OpWrite, Name: "a", Data: strings.Repeat("x", 601)}, {Op: api.OpWrite, Name: "a", At: -1},
	}
	for op := api.OpCreate; op <= api.OpStat; op++ {
		usesName := op != api.OpList && op != api.OpStat
		if !usesName {
			list = append(list, api.Command{Op: op, Name: "a"})
		}
		if op != api.OpSnap {
			list = append(list, api.Command{Op: op, Other: "a"})
		}
		if op != api.OpWrite && op != api.OpRead && op != api.OpDiscard {
			list = append(list, api.Command{Op: op, At: 1})
		}
		if op != api.OpCreate && op != api.OpResize && op != api.OpRead && op != api.OpDiscard {
			list = append(list, api.Command{Op: op, Count: 1})
		}
		if op != api.OpWrite {
			list = append(list, api.Command{Op: op, Data: "a"})
		}
	}
	return list
}

func TestO1RightAndPut(t *testing.T) {
	for want, c := range good() {
		if !command.Right(c) {
			t.Error("should be valid", c)
		}
		if s, e := command.Put(c); s != want || e != api.OK {
			t.Errorf("%v: %q %d, not %q", c, s, e, want)
		}
	}
	for _, c := range wrong() {
		if command.Right(c) {
			t.Error("should not be valid", c)
		}
		if s, e := command.Put(c); s != "" || e != api.ErrCommandForm {
			t.Errorf("%v: %q %d", c, s, e)
		}
	}
}

func TestO2Get(t *testing.T) {
	for s, want := range good() {
		if c, e := command.Get(s); c != want || e != api.OK {
			t.Errorf("%q: %v %d", s, c, e)
		}
	}
	bad := []string{"", "\x00", "\x09\x00", "\x08\x00", "\x0a", "\xff", "\x09\x09", "\x02\x15" + strings.Repeat("n", 21), "\x02\xff", "\x02\x03ab", "\x02\x01ab",
		"\x01\x01a\x01\x00\x00\x00\x00\x01", "\x01\x01a\xff\xff\xff\xff\xff\xff", "\x05\x01a\x00\x00\x00\x00\x00\x00\x02\x59" + strings.Repeat("x", 601), "\x05\x01a\x00\x00\x00\x00\x00\x00\xff\xff", "\x03\x01a\x15" + strings.Repeat("n", 21), "\x00\x01a"}
	for s := range good() {
		for i := range len(s) {
			bad = append(bad, s[:i])
		}
		bad = append(bad, s+"\x00", s+"x", s+s)
	}
	for _, s := range bad {
		if c, e := command.Get(s); c != (api.Command{}) || e != api.ErrCommandForm {
			t.Errorf("%q: %v %d", s, c, e)
		}
	}
}

func TestO3Replies(t *testing.T) {
	for i, x := range []struct {
		e    api.Errno
		data string
		want string
	}{{191, "x", "\x00\xbfx"}, {0, "", "\x00\x00"}, {65535, "a\x00", "\xff\xffa\x00"}, {65536, "", "\xff\xff"}, {-1, "y", "\xff\xffy"}, {math.MaxInt, "", "\xff\xff"}, {math.MinInt, "", "\xff\xff"}, {258, strings.Repeat("z", 5000), "\x01\x02" + strings.Repeat("z", 5000)}} {
		if s := command.Reply(x.e, x.data); s != x.want {
			t.Errorf("%d %q", i, s)
		}
		e, data, ok := command.Told(x.want)
		want := x.e
		if want < 0 || want > 65535 {
			want = 65535
		}
		if e != want || data != x.data || !ok {
			t.Error(i, e, ok)
		}
	}
	for _, s := range []string{"", "\x00", "\x01", "x"} {
		if e, data, ok := command.Told(s); e != 0 || data != "" || ok {
			t.Errorf("%q: %d %q %v", s, e, data, ok)
		}
	}
}

func TestO4Theorem(t *testing.T) {
	seen := map[string]api.Command{}
	for op := api.OpCreate; op <= api.OpStat; op++ {
		for _, name := range []string{"", "a", "ab", "\x01a"} {
			for _, other := range []string{"", "a", "\x00"} {
				for _, at := range []int{0, 1, 256} {
					for _, count := range []int{0, 1, 256} {
						for _, data := range []string{"", "\x00", "ab"} {
							c := api.Command{Op: op, Name: name, Other: other, At: at, Count: count, Data: data}
							s, e := command.Put(c)
							if e != api.OK {
								continue
							}
							if before, ok := seen[s]; ok && before != c {
								t.Fatal("the same encoding", before, c)
							}
							seen[s] = c
							if back, e := command.Get(s); back != c || e != api.OK {
								t.Fatal("Get does not invert Put", c, back, e)
							}
						}
					}
				}
			}
		}
	}
	// Whatever is read is what encodes to it.
	for s := range good() {
		for at := range min(len(s), 12) {
			for b := range 256 {
				x := s[:at] + string([]byte{byte(b)}) + s[at+1:]
				if c, e := command.Get(x); e == api.OK {
					if back, e := command.Put(c); back != x || e != api.OK {
						t.Fatalf("%q", x)
					}
				}
			}
		}
	}
}
