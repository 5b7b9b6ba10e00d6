package copyist_test

import (
	"slices"
	"strings"
	"testing"

	"copyist/api"
)

// down is a session whose disk has gone down by the first step behind some keys.
func down(t *testing.T, keys string) *pair {
	t.Helper()
	x := begin(t, usual("a", "a", "abc", "b", "other")).does(keys).faults(fault(1, api.FaultAhead))
	if a := x.do(looked("a")); !same(a, api.Answer{Err: api.ErrDown}) {
		t.Fatalf("%+v", a)
	}
	return x
}

// TestFile, P1903: what a file holds, as a step of the disk.
func TestFile(t *testing.T) {
	x := begin(t, usual("a", "a", "abc", "b", "", "c", letters(5000)))
	for _, c := range []struct {
		name string
		want api.Answer
	}{
		{"a", api.Answer{Data: []byte("abc")}}, {"b", api.Answer{}}, {"c", api.Answer{Data: []byte(letters(5000))}},
		{"d", api.Answer{Err: api.ErrMissing}}, {"a~", api.Answer{Err: api.ErrMissing}}, {"", api.Answer{Err: api.ErrName}}, {"a b", api.Answer{Err: api.ErrName}}, {strings.Repeat("n", 33), api.Answer{Err: api.ErrName}},
	} {
		ahead := x.d.Steps()
		if a := x.do(looked(c.name)); !same(a, c.want) {
			t.Errorf("%q: %+v", c.name, a)
		}
		x.steps(ahead + 1)
	}
	for _, c := range []struct {
		kind int
		want api.Errno
	}{{api.FaultRefuse, api.ErrIO}, {api.FaultPart, api.ErrIO}, {api.FaultLie, api.ErrIO}, {api.FaultAhead, api.ErrDown}, {api.FaultBehind, api.ErrDown}} {
		x.faults(fault(1, c.kind))
		if a := x.do(looked("a")); !same(a, api.Answer{Err: c.want}) {
			t.Errorf("fault %d: %+v", c.kind, a)
		}
		x.restart("a", api.Cut{}, api.OK)
	}
	// what was changed and not saved is not in the file
	x.does("xxx").file("a", "abc").dirty(true).ends()
}

// TestNamesTold, P1903: all names, rising; no step.
func TestNamesTold(t *testing.T) {
	x := begin(t, usual("", "b", "", "a", "", "B", "", "~a", "", "0", ""))
	names := func(want ...string) {
		t.Helper()
		if a := x.do(api.Step{Kind: api.StepNames, Name: "x"}); !same(a, api.Answer{Names: want}) {
			t.Errorf("%+v, want %q", a, want)
		}
	}
	names("0", "B", "a", "b", "~a")
	x.steps(0).faults(fault(1, api.FaultRefuse))
	names("0", "B", "a", "b", "~a")
	x.steps(0).poke("c~", "left")
	names("0", "B", "a", "b", "c~", "~a")
	x = begin(t, usual(""))
	names()
}

// TestPoke, P1903: another hand, whom no fault meets.
func TestPoke(t *testing.T) {
	x := begin(t, usual("a", "a", "abc")).faults(fault(1, api.FaultAhead))
	x.poke("a", "theirs").poke("new", "").poke("b~", "left").steps(0)
	for _, c := range []struct {
		name, data string
		want       api.Errno
	}{{"", "", api.ErrName}, {"x y", "", api.ErrName}, {"a", letters(100000), api.ErrSpace}, {"a", letters(100000 - 4), api.OK}, {"a", "", api.OK}} {
		if a := x.do(api.Step{Kind: api.StepPoke, Name: c.name, Data: []byte(c.data), N: 1, Keys: []int{1}}); !same(a, api.Answer{Err: c.want}) {
			t.Errorf("%q: %+v, want %d", c.name, a, c.want)
		}
	}
	x.sees("abc", 0).dirty(false).faults().files("a", "", "b~", "left", "new", "")
	// behind a poke the session sees another hand's file
	x.refuses("w", api.ErrChanged).does(":w!⏎:w⏎").files("a", "abc", "b~", "left", "new", "").ends()
}

// TestFaultsStep, P1903: the plan is the disk's; a new one takes the old one's place and counts anew.
func TestFaultsStep(t *testing.T) {
	x := begin(t, usual("a", "a", "abc")).does("x")
	x.faults(fault(1, api.FaultRefuse), fault(3, api.FaultLie)).refuses("w", api.ErrIO).steps(1)
	x.refuses("w", api.ErrIO).steps(4) // Stamp, Make, Remove
	x.faults(fault(7, api.FaultRefuse)).refuses("w", api.ErrIO).steps(7).dirty(true)
	x.faults(fault(1, api.FaultRefuse)).faults().does(":w⏎").steps(7).file("a", "bc").dirty(false)
	x.faults(fault(0, api.FaultRefuse), fault(-1, api.FaultRefuse), fault(1, 0), fault(1, 9)).does(":w⏎").ends()
	// a session's steps are counted from its beginning on, those of Open too
	begin(t, usual("a", "a", "abc")).steps(2).does(":w⏎").steps(9).does(":e⏎").steps(11).does(":r⏎").steps(13).does(":f b⏎").steps(14).ends()
	begin(t, usual("", "a", "abc")).steps(0).does(":f b⏎").steps(1).does(":f c⏎").steps(2).refuses("f a", api.ErrExists).steps(3).ends()
	begin(t, usual("", "a", "abc")).refuses("f a", api.ErrExists).steps(2).refuses("w a", api.ErrExists).steps(4).does(":w b⏎").steps(4 + 1 + 6).ends()
}

// TestDown, P1903: on a disk that is down the session goes on; what asks the disk is refused.
func TestDown(t *testing.T) {
	x := down(t, "x")
	for _, c := range []struct {
		step api.Step
		want api.Answer
	}{
		{looked("a"), api.Answer{Err: api.ErrDown}},
		{looked(""), api.Answer{Err: api.ErrDown}},
		{api.Step{Kind: api.StepNames}, api.Answer{Err: api.ErrDown}},
		{api.Step{Kind: api.StepPoke, Name: "a", Data: []byte("x")}, api.Answer{Err: api.ErrDown}},
		{api.Step{Kind: api.StepPoke, Name: ""}, api.Answer{Err: api.ErrDown}},
		{api.Step{Kind: api.StepFaults, Faults: []api.Fault{fault(1, api.FaultRefuse)}}, api.Answer{}},
		{api.Step{Kind: api.StepKey, N: 'x'}, api.Answer{}},
		{typed("yl"), api.Answer{N: 2}},
		{api.Step{Kind: api.StepReg, N: '0'}, api.Answer{Reg: api.Reg{Text: spell("c")}}},
	} {
		if a := x.do(c.step); !same(a, c.want) {
			t.Errorf("step %+v: %+v", c.step, a)
		}
	}
	x.sees("c", 0)
	for _, line := range []string{"w", "w!", "w n", "w! n", "wq", "x", "f n", "e! a", "e! n", "r", "r b", "wq n", "x! n"} {
		x.refuses(line, api.ErrDown)
	}
	x.refuses("w x/y", api.ErrName).refuses("e b", api.ErrDirty).does(":f⏎:f a⏎").dirty(true).does(":q!⏎").gone()
	// a plan that was given while it was down is taken away by the restart
	x.restart("a", api.Cut{}, api.OK).sees("abc", 0).does("x:w⏎").files("a", "bc", "b", "other").ends()
}

// TestRestart, P1903: from a disk that is up and one that is down.
func TestRestart(t *testing.T) {
	// up: the power is lost, and what was not synced with it
	x := begin(t, usual("a", "a", "abc", "b", "other")).does("yyx:set ic⏎/c⏎:s/b/B/⏎qaq")
	x.restart("a", api.Cut{}, api.OK).sees("abc", 0).dirty(false).named("a", api.UTF8, 0)
	for _, name := range allRegisters {
		x.empty(name)
	}
	if s := x.see().Sight; s.Set != (api.Settings{Native: api.LF}) || s.Record != 0 || s.Mode != api.Normal || s.Top != 0 {
		t.Errorf("%+v", s)
	}
	x.answers("n", api.ErrEmpty).answers("u", api.ErrOldest).answers(".", api.ErrNothing).answers("&", api.ErrEmpty).answers("gv", api.ErrNothing).answers("`'", api.ErrMark).answers(";", api.ErrMove).answers("@@", api.ErrEmpty)
	// down: the cut is not looked at
	for _, cut := range []api.Cut{{}, {Names: 9, Bytes: []int{9, 9, 9}}} {
		// Stamp, Make, Append, Sync, Stamp, Rename: down behind it, and both acts are lost
		x = begin(t, usual("a", "a", "abc", "b", "other")).does("x").faults(cutting(6, api.FaultBehind, 0)).refuses("w", api.ErrDown)
		x.restart("a", cut, api.OK).files("a", "abc", "b", "other").sees("abc", 0).ends()
	}
	// keys that were pending, typing, a selection, a line, a recording: all forgotten
	for _, keys := range []string{"2d", "ifoo", "Rfoo", "v", "V", ":w", "/a", "qa", "i␖", "\"a"} {
		begin(t, usual("a", "a", "abc")).does(keys).restart("a", api.Cut{}, api.OK).sees("abc", 0).does("x").sees("bc", 0).ends()
	}
	// from a session that has ended
	begin(t, usual("a", "a", "abc")).does("x:wq⏎").gone().restart("a", api.Cut{}, api.OK).sees("bc", 0).ends()
	// steps and the plan are new
	begin(t, usual("a", "a", "abc")).faults(fault(1, api.FaultRefuse), fault(2, api.FaultRefuse)).restart("a", api.Cut{}, api.OK).steps(2).sees("abc", 0).ends()
}

// TestRestartOnto, P1903: another file, none, one that fails.
func TestRestartOnto(t *testing.T) {
	for _, isDown := range []bool{false, true} {
		start := func() *pair {
			x := begin(t, usual("a", "a", "abc", "b", mark16+"d\x00", "c~", "left")).poke("a~", "left")
			if isDown {
				x.faults(fault(1, api.FaultAhead)).do(looked("a"))
			}
			return x
		}
		start().restart("b", api.Cut{}, api.OK).named("b", api.UTF16LE, 2).sees("d", 0).files("a", "abc", "b", mark16+"d\x00").does("x:w⏎").files("a", "abc", "b", mark16).ends()
		start().restart("n", api.Cut{}, api.OK).named("n", api.UTF8, 0).sees("", 0).does(":w⏎").files("a", "abc", "b", mark16+"d\x00", "n", "").ends()
		start().restart("", api.Cut{}, api.OK).named("", api.UTF8, 0).sees("", 0).refuses("w", api.ErrNoName).ends()
		for _, name := range []string{"a~", "x y", "/", strings.Repeat("n", 32)} {
			x := start().restart(name, api.Cut{}, api.ErrName).gone()
			x.files("a", "abc", "b", mark16+"d\x00").poke("a", "theirs").restart("a", api.Cut{}, api.OK).sees("theirs", 0).ends()
		}
	}
	// a file that is too long: Tidy has been
	s := usual("a", "a", "abc", "b", "abcdef")
	s.Limit = 5
	x := begin(t, s).does("x").poke("b~", "left").restart("b", api.Cut{}, api.ErrFull).gone().files("a", "abc", "b", "abcdef")
	x.restart("a", api.Cut{}, api.OK).sees("abc", 0).does("Ade␛").answers("Af", api.ErrFull).ends()
	// the encoding is the setup's, not the text's
	x = begin(t, usual("a", "a", mark16+"a\x00", "b", "b")).restart("b", api.Cut{}, api.OK).named("b", api.UTF8, 0).restart("", api.Cut{}, api.OK).named("", api.UTF8, 0)
	x.ends()
	begin(t, in(api.UTF16BE, usual("a", "a", "\x00a"))).restart("", api.Cut{}, api.OK).named("", api.UTF16BE, 0).ends()
}

// TestCuts, P1903: what each cut leaves, of a save whose last step was refused and of one more that has just begun.
func TestCuts(t *testing.T) {
	for names := -1; names <= 7; names++ {
		for _, bytes := range [][]int{nil, {1}, {1, 1}, {9, 9, 9, 9}, {-1, 9}} {
			x := begin(t, usual("a", "a", "abc", "b", "other")).does("x").faults(fault(7, api.FaultRefuse)).refuses("w", api.ErrIO)
			x.does("x").faults(fault(3, api.FaultPart), fault(4, api.FaultRefuse)).refuses("w", api.ErrIO)
			x.restart("a", api.Cut{Names: names, Bytes: bytes}, api.OK)
			want := "bc"
			if names < 2 { // Make, Rename
				want = "abc"
			}
			x.sees(want, 0).files("a", want, "b", "other").ends()
		}
	}
}

// TestLossAtEveryStep, W4: a power loss, or any other fault, at every step of every kind of save, and a new session behind it.
func TestLossAtEveryStep(t *testing.T) {
	long := letters(2100)
	for _, c := range []struct {
		data, keys, line string
		is               string // what the save would write
		name             string
	}{
		{"abc", "x", "w", "bc", "a"},
		{mark8 + "abc", "x", "w!", mark8 + "bc", "a"},
		{long, "x", "wq", long[1:], "a"},
		{"abc", "xxx", "x", "", "a"},
		{"abc", "x", "w n", "bc", "n"},
		{"abc", "x", "w! b", "bc", "b"},
		{mark16 + "a\x00", "ylp", "w n", mark16 + "a\x00a\x00", "n"},
	} {
		for step := 1; step <= 13; step++ {
			for _, kind := range kindsOfFaults {
				for _, cut := range []api.Cut{{}, {Names: 1}, {Names: 2, Bytes: []int{1, 1, 1}}, {Names: 9, Bytes: []int{9999, 9999, 9999}}} {
					files := map[string]string{"a": c.data, "b": "other"}
					x := begin(t, usual("a", "a", c.data, "b", "other")).does(c.keys)
					x.faults(api.Fault{Step: step, Kind: kind, Part: 1, Cut: cut})
					saved := x.keys(":" + c.line + "⏎").Err
					x.restart(c.name, cut, api.OK)
					got := x.do(looked(c.name))
					old, was := files[c.name]
					switch {
					case saved == api.OK && (got.Err != api.OK || string(got.Data) != c.is):
						t.Errorf("%s, fault %d at step %d: saved, and yet %q", c.line, kind, step, got.Data)
					case got.Err == api.ErrMissing && was || got.Err == api.OK && string(got.Data) != c.is && (!was || string(got.Data) != old):
						t.Errorf("%s, fault %d at step %d: %d, %q", c.line, kind, step, got.Err, got.Data)
					}
					if got.Err == api.OK {
						files[c.name] = string(got.Data)
					}
					x.files(flat(files)...).ends()
				}
			}
		}
	}
}

// flat are names and bytes, one behind the other, by rising names.
func flat(files map[string]string) []string {
	names := []string{}
	for name := range files {
		names = append(names, name)
	}
	slices.Sort(names)
	all := []string{}
	for _, name := range names {
		all = append(all, name, files[name])
	}
	return all
}
