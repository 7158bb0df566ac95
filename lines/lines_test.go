package lines_test

import (
	"strings"
	"testing"

	"stave/api"
	"stave/lines"
)

// join is a script, or a transcript.
func join(l ...string) string {
	if len(l) == 0 {
		return ""
	}
	return strings.Join(l, "\n") + "\n"
}

// play runs pairs of a line and its output.
func play(t *testing.T, pairs ...string) {
	t.Helper()
	var script, want []string
	for i := 0; i < len(pairs); i += 2 {
		script, want = append(script, pairs[i]), append(want, pairs[i+1])
	}
	got, e, n := lines.Run(join(script...))
	if e != api.OK || n != 0 {
		t.Fatal(e, n, script[max(n-1, 0)])
	}
	outputs := strings.Split(strings.TrimSuffix(got, "\n"), "\n")
	if len(outputs) != len(want) || !strings.HasSuffix(got, "\n") {
		t.Fatalf("%q", got)
	}
	for i := range want {
		if outputs[i] != want[i] {
			t.Errorf("line %d, %s: %q, not %q", i+1, script[i], outputs[i], want[i])
		}
	}
}

func TestExample(t *testing.T) {
	play(t,
		"new 2 1 16", "ok", "create a 100", "ok", "write a 17 hello", "ok", "read a 17", "has hello", "stat", "stat 1 7 9",
		"fail 1", "ok", "read a 17", "has hello", "snap a b", "ok", "label", "label 2 1:1:0 0:1:0 1:1:0")
}

func TestM1Nothing(t *testing.T) {
	all := []string{"create a 1", "resize a 1", "delete a", "snap a b", "write a 0 x", "discard a 0 1", "read a 0", "list", "stat", "build 1", "step", "scrub", "label"}
	rack := []string{"fail 0", "blank 0", "rot 0 0 0 1", "cut 5", "boot 0"}
	var pairs []string
	for _, l := range append(append([]string{}, all...), rack...) {
		pairs = append(pairs, l, "nothing")
	}
	// A geometry that is not valid yields no rack.
	pairs = append(pairs, "new 5 1 16", "error 1", "new 0 1 16", "error 1", "new 2 1 7", "error 1", "new 2 1 999999", "error 1", "fail 0", "nothing", "list", "nothing")
	play(t, pairs...)
	// A rack without an engine: nothing can be booted.
	pairs = []string{"new 2 1 16", "ok", "blank 0", "ok", "blank 1", "ok", "blank 2", "ok", "list", "list", "boot 0", "error 140"}
	for _, l := range all {
		pairs = append(pairs, l, "nothing")
	}
	for i, l := range rack {
		pairs = append(pairs, l, []string{"ok", "ok", "ok", "ok", "error 140"}[i])
	}
	play(t, pairs...)
	// What can't be made leaves the rack that is there.
	play(t, "new 2 1 16", "ok", "create a 1", "ok", "new 9 9 9", "error 1", "list", "list a:1", "new 1 1 8", "ok", "list", "list", "label", "label 1 1:1:0 1:1:0")
}

func TestM1Commands(t *testing.T) {
	long := strings.Repeat("n", 21)
	sixty := strings.Repeat("w", 60)
	play(t,
		"new 2 1 16", "ok", "list", "list", "stat", "stat 0 3 13",
		"create vol 4096", "ok", "create a 0", "ok", "create a 5", "error 182", "create A 5", "error 181", "create b 4097", "error 191",
		"create "+long+" 5", "error 200", "delete "+long, "error 200", "snap a "+long, "error 200", "read "+long+" 0", "error 200", "create "+sixty+" 5", "error 200",
		"list", "list a:0 vol:4096", "stat", "stat 2 3 13",
		"write vol 9 "+sixty, "ok", "read vol 9", "has "+sixty, "read vol 10", "has ", "read a 0", "error 191", "read x 0", "error 183", "read vol 4096", "error 191", "read vol 4095", "has ",
		"write vol 4096 x", "error 191", "write x 0 x", "error 183", "write vol 9 \x00y\x00\x00", "ok", "read vol 9", "has \x00y",
		"snap vol s", "ok", "snap vol s", "error 182", "snap q r", "error 183",
		"discard vol 0 9", "ok", "read vol 9", "has \x00y", "discard vol 10 16", "ok", "read vol 9", "has \x00y", "discard vol 9 1", "ok", "discard vol 0 17", "error 191", "discard vol 0 0", "error 191", "read vol 9", "has ", "read s 9", "has \x00y",
		"resize s 9", "ok", "resize s 10", "ok", "read s 9", "has ", "resize q 1", "error 183", "resize s 4097", "error 191",
		"delete vol", "ok", "delete vol", "error 183", "list", "list a:0 s:10", "stat", "stat 2 3 13",
		"write s 0 \xff\t1", "ok", "read s 0", "has \xff\t1")
}

func TestM1Space(t *testing.T) {
	play(t, "new 1 1 8", "ok", "create a 100", "ok", "write a 0 x", "ok", "write a 1 y", "ok", "stat", "stat 1 8 0", "write a 2 z", "error 190", "read a 1", "has y")
}

func TestM1Rack(t *testing.T) {
	play(t,
		"new 2 1 16", "ok", "create a 100", "ok", "write a 17 hello", "ok",
		"fail 3", "no", "blank 3", "no", "rot 3 70 0 1", "no", "rot 0 70 128 1", "no", "rot 0 70 0 256", "no", "rot 0 70 0 0", "no", "rot 0 77 0 1", "no", "fail 999999", "no",
		"scrub", "scrub 0", "rot 0 68 0 1", "ok", "rot 2 70 127 255", "ok", "scrub", "scrub 2", "scrub", "scrub 0",
		"build 1", "error 150", "build 9", "error 150", "step", "done",
		"fail 1", "ok", "write a 18 more", "ok", "label", "label 2 1:1:0 0:1:0 1:1:0", "build 1", "error 150", "blank 1", "ok", "build 1", "ok", "label", "label 3 1:1:0 2:3:0 1:1:0",
		"step", "ok", "step", "ok", "label", "label 5 1:1:0 2:3:2 1:1:0", "step", "ok", "step", "ok", "step", "ok", "step", "ok", "step", "ok", "step", "ok", "step", "ok", "step", "done", "label", "label 12 1:1:0 1:3:0 1:1:0",
		"fail 0", "ok", "read a 17", "has hello", "fail 2", "ok", "read a 17", "error 141", "scrub", "error 141", "write a 0 x", "error 141")
}

func TestM1Cuts(t *testing.T) {
	play(t,
		"new 2 1 16", "ok", "create a 100", "ok", "write a 17 hello", "ok", "cut 1", "ok", "write a 17 world", "error 90", "read a 17", "error 90", "list", "error 90", "stat", "error 90", "scrub", "error 90", "step", "error 90", "build 1", "error 90", "create b 1", "error 90", "label", "label 1 1:1:0 1:1:0 1:1:0",
		"boot 0", "ok", "label", "label 2 1:1:0 1:1:0 1:1:0", "read a 17", "has hello",
		"cut 999999", "ok", "cut 0", "ok", "write a 17 world", "ok", "cut 3", "ok", "boot 12", "ok", "read a 17", "has world",
		"cut 2", "ok", "create b 1", "error 90", "cut 1", "ok", "boot 0", "ok", "list", "list a:100",
		"cut 5", "ok", "create b 1", "error 90", "fail 0", "ok", "fail 1", "ok", "boot 1", "error 141", "list", "nothing", "blank 0", "ok", "boot 1", "error 141", "cut 1", "ok", "boot 1", "error 141")
}

// TestM1Choices lets the power go off where two members have pending heads of a record, which the digits keep or not: each slot begins with the digit of its own number.
func TestM1Choices(t *testing.T) {
	// A commit of one stripe: 2 strings of the body in three slots, 3 flushes, and 3 heads, of which each is the only pending sector of its slot.
	for digits, want := range map[string]string{"000": "hello", "100": "world", "010": "world", "001": "world", "0": "hello", "1": "world", "0002": "hello", "0003": "hello", "0010": "world", "00010": "hello", "20": "hello", "30": "world", "2": "hello", "4": "hello", "3": "world", "0001": "hello"} {
		play(t, "new 2 1 16", "ok", "create a 100", "ok", "write a 17 hello", "ok", "cut 13", "ok", "write a 17 world", "error 90", "boot "+digits, "ok", "read a 17", "has "+want)
	}
	// With one body sector of two kept, the bodies are incomplete; but none is pending when the heads are written.
	play(t, "new 2 1 16", "ok", "create a 100", "ok", "write a 17 hello", "ok", "cut 10", "ok", "write a 17 world", "error 90", "boot 1", "ok", "read a 17", "has hello")
}

func TestM1Errors(t *testing.T) {
	list := strings.Repeat("list\n", 300)
	for i, x := range []struct {
		script string
		e      api.Errno
		n      int
	}{
		{"", api.ErrLinesLine, 1}, {"\n", api.ErrLinesLine, 1}, {"list", api.ErrLinesLine, 1}, {"list\nstat", api.ErrLinesLine, 2}, {"list\n\n", api.ErrLinesLine, 2}, {"list\n \n", api.ErrLinesLine, 2},
		{list, api.OK, 0}, {list + "list\n", api.ErrLinesLong, 0}, {list + "x", api.ErrLinesLong, 0}, {list + "\n", api.ErrLinesLong, 0}, {"wrong\n" + list, api.ErrLinesLong, 0}, {list[:1495] + "x", api.ErrLinesLine, 300}, {list[:1495] + "x\n", api.ErrLinesLine, 300},
		{strings.Repeat("\n", 1000), api.ErrLinesLong, 0}, {strings.Repeat("\n", 300), api.ErrLinesLine, 1}, {strings.Repeat("x", 5000), api.ErrLinesLine, 1},
		{"list\nfirst\nsecond\n", api.ErrLinesLine, 2},
	} {
		got, e, n := lines.Run(x.script)
		if e != x.e || n != x.n || e != api.OK && got != "" {
			t.Errorf("%d: %q %d %d", i, got, e, n)
		}
	}
}

func TestM1Forms(t *testing.T) {
	sixty := strings.Repeat("w", 60)
	good := []string{"new 2 1 16", "new 0 0 0", "new 999999 999999 999999", "create a 1", "create " + sixty + " 0", "resize Ä 1", "delete -", "snap a b", "write a 0 x", "write " + sixty + " 999999 " + sixty, "discard a 0 1", "read a 0", "list", "stat", "fail 0", "blank 999999", "rot 0 1 2 3", "cut 0", "boot 0123456789", "boot " + strings.Repeat("0", 60), "build 0", "step", "scrub", "label", "delete \x00", "delete \r", "delete list"}
	for _, l := range good {
		if _, e, n := lines.Run(l + "\n"); e != api.OK || n != 0 {
			t.Errorf("%q: %d %d", l, e, n)
		}
	}
	bad := []string{"", " ", "lists", "LIST", "list ", " list", "list\r", "list x", "list  ", "new", "new 2 1", "new 2 1 16 ", "new 2 1 16 3", "new  2 1 16", "new 2  1 16", "new 02 1 16", "new 2 1 00", "new -2 1 16", "new +2 1 16", "new 2 1 1000000", "new 2 1 0000001", "new a 1 16", "new 2 1 1x", "new 2 1 ²", "new 2 1 0x1", "new 2 1 1_0", "new 2 1 1.",
		"create a", "create  1", "create a b", "create a 1 2", "create " + sixty + "w 1", "create 1", "resize a", "delete", "delete ", "delete a b", "delete " + sixty + "w", "snap a", "snap a b c", "snap a ", "snap  a", "write a 1", "write a 1 ", "write a x y", "write a 1 b c", "write a 1 " + sixty + "w", "write a 1000000 x", "discard a 1", "discard a 1 x", "discard a 1 2 3", "read a", "read a x", "read a 1 2", "read a 01",
		"fail", "fail x", "fail 1 2", "blank", "blank -1", "rot 1 2 3", "rot 1 2 3 4 5", "rot 1 2 3 x", "cut", "cut x", "cut 1000000", "boot", "boot ", "boot x", "boot 1x", "boot 1 2", "boot -1", "boot " + strings.Repeat("0", 61), "build", "build x", "step 1", "scrub 1", "label 1", "stat 1", "nothing", "ok", "list\tx", "delete " + strings.Repeat("a", 250), strings.Repeat("list ", 50)}
	for _, l := range bad {
		if got, e, n := lines.Run("stat\n" + l + "\nstat\n"); e != api.ErrLinesLine || n != 2 || got != "" {
			t.Errorf("%q: %d %d", l, e, n)
		}
	}
}

// script is a long one, in which all lines stand.
func script() []string {
	l := []string{"list", "new 2 2 30", "create a 100", "create b 5", "write a 0 first", "label", "write a 99 last", "snap a c", "stat", "fail 3", "write b 4 x", "read b 4", "rot 0 68 3 3", "scrub", "read a 0", "blank 3", "build 3", "step", "list", "step", "step", "read a 99", "cut 7", "step", "read a 0", "label", "list", "stat", "boot 0120", "label", "read a 0", "step", "discard a 0 3", "read c 0", "resize c 50", "read c 99"}
	for n := range 40 {
		l = append(l, "cut "+string([]byte{'1' + byte(n%9), '0' + byte(n%7)}), "write a "+string([]byte{'1' + byte(n%8)})+" v"+string([]byte{'a' + byte(n%26)}), "read a 3", "list", "boot 1021", "read a 1", "stat")
	}
	return l
}

func TestM2Prefixes(t *testing.T) {
	l := script()
	all, e, _ := lines.Run(join(l[:300]...))
	if e != api.OK {
		t.Fatal(e)
	}
	outputs := strings.SplitAfter(all, "\n")
	for n := 1; n < 300; n += 7 {
		got, e, _ := lines.Run(join(l[:n]...))
		if e != api.OK || got != strings.Join(outputs[:n], "") {
			t.Fatal("the first lines", n, e)
		}
	}
}

func TestM2LinesThatOnlyTell(t *testing.T) {
	l := script()[:300]
	all, _, _ := lines.Run(join(l...))
	outputs := strings.Split(all, "\n")
	var kept, want []string
	for i, x := range l {
		switch strings.Split(x, " ")[0] {
		case "read", "list", "stat", "label":
		default:
			kept, want = append(kept, x), append(want, outputs[i])
		}
	}
	if got, e, _ := lines.Run(join(kept...)); e != api.OK || got != join(want...) {
		t.Error("other outputs", e)
	}
	seen := map[string]bool{}
	for _, x := range outputs {
		seen[strings.Split(x, " ")[0]] = true
	}
	for _, x := range []string{"nothing", "ok", "has", "list", "stat", "label", "scrub", "error"} {
		if !seen[x] {
			t.Error("not in the script", x)
		}
	}
}

// TestDocExample is the example of the document.
func TestDocExample(t *testing.T) {
	play(t, "new 2 1 16", "ok", "create a 100", "ok", "write a 17 hello", "ok", "snap a b", "ok", "write a 17 world", "ok", "fail 1", "ok", "cut 9", "ok", "write b 17 again", "error 90", "boot 0", "ok", "read a 17", "has world", "read b 17", "has hello")
	play(t, "new 2 1 16", "ok", "create a 100", "ok", "write a 17 hello", "ok", "snap a b", "ok", "write a 17 world", "ok", "fail 1", "ok", "cut 9", "ok", "write b 17 again", "error 90", "boot 1", "ok", "read a 17", "has world", "read b 17", "has again")
}
