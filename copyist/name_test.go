package copyist_test

import (
	"testing"

	"copyist/api"
)

// TestFileCommand, P1905: the text's name.
func TestFileCommand(t *testing.T) {
	x := begin(t, usual("a", "a", mark8+"abc", "b", "other")).does("x").faults()
	// nothing, without asking the disk
	x.does(":f⏎:f a⏎:file⏎").steps(0).named("a", api.UTF8, 3)
	for _, name := range badNames {
		x.refuses("f "+name, api.ErrName)
	}
	x.steps(0).refuses("f b", api.ErrExists).steps(1).named("a", api.UTF8, 3)
	// another name: the mark stays, no file has changed, the text is as dirty as it was
	x.does(":f n⏎").steps(2).named("n", api.UTF8, 3).dirty(true).sees("bc", 0).files("a", mark8+"abc", "b", "other")
	x.does(":w⏎").files("a", mark8+"abc", "b", "other", "n", mark8+"bc").dirty(false)
	// the old name is another file's now
	x.refuses("f a", api.ErrExists).refuses("w a", api.ErrExists).does("x:w⏎").file("n", mark8+"c").ends()
	// back to a name that was never written
	begin(t, usual("a")).does(":f b⏎:f a⏎:w⏎").files("a", "").ends()
	// what has come under the new name meanwhile is another hand's
	begin(t, usual("a", "a", "abc")).does(":f n⏎").poke("n", "theirs").refuses("w", api.ErrChanged).does(":w!⏎").files("a", "abc", "n", "abc").ends()
	// a clean text stays clean
	begin(t, usual("a", "a", "abc")).does(":f n⏎").dirty(false).does(":x⏎").gone().files("a", "abc").ends()
}

// TestFirstName, P1905: a text that has none takes its first name, where there is no file.
func TestFirstName(t *testing.T) {
	x := begin(t, usual("", "a", "abc")).does("ix␛:f⏎").named("", api.UTF8, 0).faults()
	for _, name := range badNames {
		x.refuses("f "+name, api.ErrName)
	}
	x.steps(0).refuses("f a", api.ErrExists).steps(2).named("", api.UTF8, 0)
	x.does(":f n⏎").steps(3).named("n", api.UTF8, 0).dirty(true).files("a", "abc").does(":w⏎").files("a", "abc", "n", "x").dirty(false)
	x.does(":f m⏎").named("m", api.UTF8, 0).does(":w⏎").files("a", "abc", "m", "x", "n", "x").ends()
	for _, enc := range encodings {
		begin(t, in(enc, usual(""))).does(":f n⏎").named("n", enc, 0).does(":w⏎").files("n", "").ends()
	}
	// a name, and another hand ahead of the first save
	begin(t, usual("")).does("ix␛:f n⏎").poke("n", "theirs").refuses("w", api.ErrChanged).file("n", "theirs").does(":w!⏎").file("n", "x").ends()
	// a file that is there and has a mark: still one that is there
	begin(t, usual("", "a", mark16)).refuses("f a", api.ErrExists).ends()
}

// TestNameFaults, P1905: what goes wrong while a name is taken leaves the old one, or none.
func TestNameFaults(t *testing.T) {
	for _, own := range []string{"a", ""} {
		for _, kind := range kindsOfFaults {
			for _, name := range []string{"b", "n"} {
				for step := 1; step <= 2; step++ {
					x := begin(t, usual(own, "a", "abc", "b", "other")).does("ix␛").faults(fault(step, kind))
					ahead := x.see()
					a := x.keys(":f " + name + "⏎")
					if now := x.see(); a.Err != api.OK && !same(now, ahead) || a.Err == api.OK && now.Name != "n" {
						t.Errorf("%q to %q, fault %d at step %d: %+v", own, name, kind, step, now)
					}
					want := api.ErrIO
					switch {
					case kind == api.FaultLie && name == "n" && step == 1, name == "n" && step == 2:
						want = api.OK // no such file is no lie; there is no such step
					case own == "a" && step == 2:
						want = api.ErrExists
					case kind >= api.FaultAhead:
						want = api.ErrDown
					}
					if a.Err != want {
						t.Errorf("%q to %q, fault %d at step %d: %d, want %d", own, name, kind, step, a.Err, want)
					}
					x.ends()
				}
			}
		}
	}
}
