package copyist_test

import (
	"slices"
	"strings"
	"testing"

	"copyist/api"
)

// TestWrite, P1905: the text's own file.
func TestWrite(t *testing.T) {
	x := begin(t, usual("a", "a", "abc", "b", "other")).does("x:w⏎").files("a", "bc", "b", "other").dirty(false)
	// a text that has not changed is written all the same
	x.faults().does(":w⏎").steps(7).does("x:w a⏎").file("a", "c").dirty(false)
	// undo leads away from what was saved, and redo back to it
	x.does("u").dirty(true).does("␒").dirty(false).does("uu").dirty(true).does(":w⏎").dirty(false).file("a", "abc").ends()
	// another hand's bytes, even the same ones
	for _, data := range []string{"theirs", "abc", ""} {
		begin(t, usual("a", "a", "abc")).does("x").poke("a", data).refuses("w", api.ErrChanged).refuses("w a", api.ErrChanged).dirty(true).file("a", data).does(":w! a⏎").file("a", "bc").dirty(false).does("x:w⏎").file("a", "c").ends()
	}
	// a file that has come meanwhile
	begin(t, usual("n")).does("ix␛").poke("n", "theirs").refuses("w", api.ErrChanged).file("n", "theirs").does(":w!⏎").file("n", "x").ends()
	// a name without a file
	begin(t, usual("n")).does(":w⏎").files("n", "").does("ix␛:w⏎").files("n", "x").ends()
	// no name
	begin(t, usual("", "a", "abc")).refuses("w", api.ErrNoName).refuses("w!", api.ErrNoName).does("ix␛").refuses("w", api.ErrNoName).steps(0).dirty(true).named("", api.UTF8, 0).ends()
}

// TestWriteElsewhere, P1905: another file is written, and nothing changes in the session.
func TestWriteElsewhere(t *testing.T) {
	x := begin(t, usual("a", "a", mark8+"abc", "b", "other")).does("x")
	ahead := x.see()
	x.does(":w n⏎").files("a", mark8+"abc", "b", "other", "n", mark8+"bc")
	if now := x.see(); !same(now, ahead) {
		t.Errorf("%+v, want %+v", now, ahead)
	}
	x.refuses("w b", api.ErrExists).refuses("w n", api.ErrExists).file("b", "other")
	x.does(":w! b⏎").files("a", mark8+"abc", "b", mark8+"bc", "n", mark8+"bc").dirty(true).named("a", api.UTF8, 3)
	// the text's own file is known as ever
	x.does(":w⏎").file("a", mark8+"bc").dirty(false).does(":w m⏎").dirty(false).ends()
	// what was written elsewhere is not the text's own, also where it is the same
	begin(t, usual("a", "a", "abc")).does(":w n⏎").poke("a", "abc").refuses("w", api.ErrChanged).ends()
	// a new name: the text's file isn't there, and its copy is
	begin(t, usual("a")).does("ix␛:w b⏎").files("b", "x").dirty(true).named("a", api.UTF8, 0).does(":w⏎").files("a", "x", "b", "x").dirty(false).ends()
}

// badNames are refused as the names of a user's file.
var badNames = []string{"a~", "~", "x/y", "a,b", "!", "*", strings.Repeat("n", 32)}

// TestWriteNames, P1905: names that are refused, ahead of all that the disk is asked.
func TestWriteNames(t *testing.T) {
	for _, name := range badNames {
		for _, own := range []string{"a", ""} {
			x := begin(t, usual(own, "a", "abc")).does("ix␛").faults(fault(1, api.FaultRefuse))
			for _, line := range []string{"w ", "w! ", "wq ", "wq! ", "x ", "x! "} {
				x.refuses(line+name, api.ErrName)
			}
			x.steps(0).dirty(true).faults().files("a", "abc").ends()
		}
	}
	long := strings.Repeat("n", 31)
	begin(t, usual("a", "a", "abc")).does(":w "+long+"⏎").files("a", "abc", long, "abc").ends()
	begin(t, usual("a", "a", "abc")).does(":w ~b⏎").files("a", "abc", "~b", "abc").ends()
}

// TestWriteGivesName, P1905: a text without a name takes the one that is given.
func TestWriteGivesName(t *testing.T) {
	for _, line := range []string{"w n", "w! n"} {
		x := begin(t, usual("", "a", "abc")).does("ix␛").faults().does(":"+line+"⏎").steps(1+7).named("n", api.UTF8, 0).dirty(false).files("a", "abc", "n", "x")
		x.does("ylp:w⏎").file("n", "xx").ends()
	}
	// a file that is there is not the text's, by force neither
	for _, line := range []string{"w a", "w! a", "wq a", "wq! a", "x a", "x! a", "f a"} {
		begin(t, usual("", "a", "abc")).does("ix␛").faults().refuses(line, api.ErrExists).steps(2).named("", api.UTF8, 0).dirty(true).files("a", "abc").ends()
	}
	// one that is too long for the text is refused for that
	s := usual("", "a", "abc")
	s.Limit = 2
	begin(t, s).refuses("w a", api.ErrFull).refuses("f a", api.ErrFull).refuses("w! a", api.ErrFull).named("", api.UTF8, 0).ends()
	// no room for a name more: the name stays, the save is refused
	s = usual("")
	for i := range 16 {
		s.Files = append(s.Files, api.File{Name: "f" + string(rune('a'+i))})
	}
	begin(t, s).does("ix␛").answers(":w n⏎", api.ErrSpace).named("n", api.UTF8, 0).dirty(true).refuses("w", api.ErrSpace).ends()
	// a name that was taken by a save that failed is kept, and nothing but that
	for step := 2; step <= 9; step++ {
		for _, kind := range kindsOfFaults[:3] {
			x := begin(t, usual("")).does("ix␛").faults(fault(step, kind))
			saved := step == 9 || step == 2 && kind == api.FaultLie // there is no such step, no such file
			if a := x.keys(":w n⏎"); (a.Err == api.OK) != saved {
				t.Errorf("fault %d at step %d: %d", kind, step, a.Err)
			}
			x.named("n", api.UTF8, 0).sees("x", 0).dirty(!saved).faults().does(":w⏎").dirty(false).files("n", "x").ends()
		}
	}
	// the first step is that of taking the name
	begin(t, usual("")).does("ix␛").faults(fault(1, api.FaultRefuse)).refuses("w n", api.ErrIO).named("", api.UTF8, 0).ends()
	begin(t, usual("")).does("ix␛").faults(fault(1, api.FaultBehind)).refuses("w n", api.ErrDown).named("", api.UTF8, 0).ends()
	begin(t, usual("")).does("ix␛").faults(fault(1, api.FaultLie)).does(":w n⏎").named("n", api.UTF8, 0).files("n", "x").ends() // there is none, says the disk, and that is no lie
}

// TestWriteFaults, P1905: what goes wrong at each step of a save: the text, whether it is changed, its name, the file, and the save that comes next.
func TestWriteFaults(t *testing.T) {
	for _, line := range []string{"w", "w!", "wq", "x", "w n", "w! b", "wq n"} {
		own := line != "w n" && line != "w! b" && line != "wq n"
		for step := 1; step <= 8; step++ {
			for _, kind := range kindsOfFaults {
				x := begin(t, usual("a", "a", "abc", "b", "other")).does("yyxma").faults(cutting(step, kind, 9))
				if step == 8 || step == 1 && kind == api.FaultLie && strings.HasSuffix(line, "n") { // there is no such step, no such file
					x.does(":" + line + "⏎").ends()
					continue
				}
				want := api.ErrIO
				if kind >= api.FaultAhead {
					want = api.ErrDown
				}
				x.refuses(line, want).sees("bc", 0).dirty(true).named("a", api.UTF8, 0)
				if want == api.ErrDown {
					x.refuses(line, api.ErrDown).restart("a", api.Cut{}, api.OK)
				} else {
					x.faults().does(":w⏎").dirty(false).file("a", "bc").does("u:w⏎").file("a", "abc")
				}
				if a := x.do(api.Step{Kind: api.StepNames}); slices.ContainsFunc(a.Names, func(n string) bool { return n[len(n)-1] == '~' }) {
					t.Errorf("%s, fault %d at step %d: %q", line, kind, step, a.Names)
				}
				if !own {
					x.file("a", "abc")
				}
				x.ends()
			}
		}
	}
	// a rename that was done and told as failed is known as our own
	begin(t, usual("a", "a", "abc")).does("x").faults(fault(6, api.FaultLie)).refuses("w", api.ErrIO).file("a", "bc").dirty(true).faults().does(":w⏎").dirty(false).ends()
	// and is another hand's, once that has come
	begin(t, usual("a", "a", "abc")).does("x").faults(fault(6, api.FaultLie)).refuses("w", api.ErrIO).poke("a", "theirs").refuses("w", api.ErrChanged).ends()
	// a left-over on the way is written over
	begin(t, usual("a", "a", "abc")).does("x").poke("a~", "left").faults().does(":w⏎").steps(9).files("a", "bc").ends()
}

// TestWriteQuit, P1905: the session ends behind a save that went well.
func TestWriteQuit(t *testing.T) {
	for _, c := range []struct {
		line  string
		files []string
	}{
		{"wq", []string{"a", "bc", "b", "other"}}, {"wq!", []string{"a", "bc", "b", "other"}}, {"wq a", []string{"a", "bc", "b", "other"}},
		{"wq n", []string{"a", "abc", "b", "other", "n", "bc"}}, {"wq! b", []string{"a", "abc", "b", "bc"}}, {"x", []string{"a", "bc", "b", "other"}},
		{"x!", []string{"a", "bc", "b", "other"}}, {"x a", []string{"a", "bc", "b", "other"}}, {"x n", []string{"a", "abc", "b", "other", "n", "bc"}}, {"x! b", []string{"a", "abc", "b", "bc"}},
	} {
		begin(t, usual("a", "a", "abc", "b", "other")).does("x:" + c.line + "⏎").gone().files(c.files...).ends()
	}
	x := begin(t, usual("a", "a", "abc", "b", "other")).does("x")
	for _, line := range []string{"wq b", "x b"} {
		x.refuses(line, api.ErrExists)
	}
	x.poke("a", "theirs")
	for _, line := range []string{"wq", "wq a", "x", "x a"} {
		x.refuses(line, api.ErrChanged)
	}
	x.answers("ZZ", api.ErrChanged).sees("bc", 0).dirty(true).does(":wq!⏎").gone().files("a", "bc", "b", "other").ends()
	begin(t, usual("")).refuses("wq", api.ErrNoName).refuses("wq!", api.ErrNoName).does("ix␛").refuses("x", api.ErrNoName).refuses("x!", api.ErrNoName).answers("ZZ", api.ErrNoName).does(":wq n⏎").gone().files("n", "x").ends()
	begin(t, usual("")).does("ix␛:x n⏎").gone().files("n", "x").ends()
	// unlike XExit, :wq writes a text that has not changed
	begin(t, usual("a", "a", "abc")).poke("a", "theirs").refuses("wq", api.ErrChanged).faults().does(":wq!⏎").steps(7).gone().file("a", "abc").ends()
}

// TestExit, P1905: a clean text is not written, but for a name that is given.
func TestExit(t *testing.T) {
	for _, keys := range []string{":x⏎", ":x!⏎", "ZZ", ":exit⏎", "xu:x⏎"} {
		begin(t, usual("a", "a", "abc")).poke("a", "theirs").faults(fault(1, api.FaultAhead)).does(keys).steps(0).gone().faults().file("a", "theirs").ends()
		begin(t, usual("")).does(":x⏎").gone().files().ends()
		begin(t, usual("n")).does(":x⏎").gone().files().ends()
	}
	begin(t, usual("a", "a", "abc")).faults().does(":x a⏎").steps(7).gone().ends()
	begin(t, usual("a", "a", "abc")).does(":x n⏎").gone().files("a", "abc", "n", "abc").ends()
	begin(t, usual("")).does(":x n⏎").gone().files("n", "").ends()
	begin(t, usual("a", "a", "abc")).poke("a", "theirs").refuses("x a", api.ErrChanged).does(":x! a⏎").gone().file("a", "abc").ends()
	begin(t, usual("a", "a", "abc")).does("xZZ").gone().file("a", "bc").ends()
}

// TestQuit, P1905: a dirty text is kept, unless it is given up.
func TestQuit(t *testing.T) {
	for _, keys := range []string{":q⏎", ":q!⏎", "ZQ", ":quit⏎"} {
		begin(t, usual("a", "a", "abc")).does(keys).gone().file("a", "abc").ends()
		begin(t, usual("")).does(keys).gone().ends()
		begin(t, usual("a", "a", "abc")).does("x:w⏎"+keys).gone().file("a", "bc").ends()
		begin(t, usual("a", "a", "abc")).does("xu" + keys).gone().ends()
	}
	begin(t, usual("a", "a", "abc")).does("x").refuses("q", api.ErrDirty).does(":q!⏎").gone().file("a", "abc").ends()
	begin(t, usual("")).does("ix␛").refuses("q", api.ErrDirty).does("ZQ").gone().files().ends()
	// what was saved elsewhere is not saved
	begin(t, usual("a", "a", "abc")).does("x:w n⏎").refuses("q", api.ErrDirty).does("u:q⏎").gone().ends()
	// nor what a new name has not been written to; its being changed goes with the text
	begin(t, usual("a", "a", "abc")).does("x:f n⏎").refuses("q", api.ErrDirty).ends()
	begin(t, usual("a", "a", "abc")).does(":f n⏎:q⏎").gone().files("a", "abc").ends()
}

// TestGone, P1903: behind the end the other steps are as before.
func TestGone(t *testing.T) {
	x := begin(t, usual("a", "a", "abc", "b", "other")).does("x:wq⏎").gone()
	x.files("a", "bc", "b", "other").poke("a", "theirs").file("a", "theirs").faults(fault(1, api.FaultRefuse))
	if a := x.do(looked("a")); a.Err != api.ErrIO {
		t.Errorf("%+v", a)
	}
	x.gone().restart("b", api.Cut{}, api.OK).sees("other", 0).does(":q⏎").gone().restart("", api.Cut{}, api.OK).sees("", 0).ends()
}
