package copyist_test

import (
	"slices"
	"testing"

	"copyist/api"
	"copyist/copyist"
)

// typed is a step of keys.
func typed(s string) api.Step { return api.Step{Kind: api.StepKeys, Keys: strokes(s)} }

// looked is a step that tells what a file holds.
func looked(name string) api.Step { return api.Step{Kind: api.StepFile, Name: name} }

var seen = api.Step{Kind: api.StepSee}

// run runs a script that must begin.
func run(t *testing.T, s api.Setup, steps ...api.Step) []api.Answer {
	t.Helper()
	all, err := copyist.Run(s, steps)
	if err != api.OK || len(all) != len(steps) {
		t.Fatalf("Run: %d, %d answers", err, len(all))
	}
	return all
}

// held checks an answer that tells what a file holds.
func held(t *testing.T, a api.Answer, want string) {
	t.Helper()
	if !same(a, api.Answer{Data: []byte(want)}) {
		t.Errorf("the file holds %q, %d; want %q", a.Data, a.Err, want)
	}
}

// went checks an answer to keys.
func went(t *testing.T, a api.Answer, n int, err api.Errno) {
	t.Helper()
	if !same(a, api.Answer{N: n, Err: err}) {
		t.Errorf("%d keys went well, then %d; want %d, %d", a.N, a.Err, n, err)
	}
}

// TestExamples: the chapter's examples, each of them, by New and Do.
func TestExamples(t *testing.T) {
	// 1
	a := run(t, usual("a", "a", "x\r\ny\nz\r"), seen, typed(":w⏎"), looked("a"), seen)
	for _, s := range []api.Answer{a[0], a[3]} {
		if s.Sight.At != 0 || s.Sight.Dirty || s.Enc != 1 || s.Sight.Percent != 33 || len(s.Sight.Text) != 7 || s.Name != "a" || s.Mark != 0 {
			t.Errorf("%+v", s)
		}
	}
	went(t, a[1], 3, api.OK)
	held(t, a[2], "x\r\ny\nz\r")
	// 2
	a = run(t, usual("a", "a", "\xEF\xBB\xBFhi"), seen, typed("x:w⏎"), looked("a"), seen)
	held(t, a[2], "\xEF\xBB\xBFi")
	if a[0].Mark != 3 || a[0].Enc != api.UTF8 || !slices.Equal(a[0].Sight.Text, spell("hi")) || !slices.Equal(a[0].Sight.Tags, []int{0, 1}) || a[3].Mark != 3 {
		t.Errorf("%+v", a[0])
	}
	// 3
	a = run(t, usual("a", "a", "\xFF\xFEa\x00\n\x00\x00\xD8"), seen, typed("jx:w⏎"), looked("a"))
	held(t, a[2], "\xFF\xFEa\x00\n\x00")
	if a[0].Enc != api.UTF16LE || a[0].Mark != 2 || !slices.Equal(a[0].Sight.Text, []int{97, 10, 0xD800}) {
		t.Errorf("%+v", a[0])
	}
	// 4
	a = run(t, in(api.UTF8, usual("a", "a", "\xC3\x28")), seen, typed("lx:w⏎"), looked("a"))
	held(t, a[2], "\xC3")
	if !slices.Equal(a[0].Sight.Text, []int{-196, 40}) {
		t.Errorf("%+v", a[0])
	}
	a = run(t, usual("a", "a", "\xC3\x28"), seen)
	if a[0].Enc != api.Latin1 || !slices.Equal(a[0].Sight.Text, []int{0xC3, 40}) {
		t.Errorf("the guess: %+v", a[0])
	}
	// 5
	a = run(t, usual("a", "a", "one\ntwo"), typed("ddp:w⏎"), looked("a"))
	held(t, a[1], "two\none")
	// 6
	a = run(t, usual("a", "a", "a"), typed("iXX␛u:w⏎"), looked("a"), typed(":w⏎"), looked("a"))
	held(t, a[1], "a")
	went(t, a[2], 3, api.OK)
	held(t, a[3], "a")
}

// TestMoreExamples: the chapter's examples 7 to 12.
func TestMoreExamples(t *testing.T) {
	// 7
	a := run(t, usual("a", "a", "abc"), typed("x"), api.Step{Kind: api.StepPoke, Name: "a", Data: []byte("foreign")}, typed(":w⏎"), seen, typed(":w!⏎"), looked("a"), seen)
	went(t, a[2], 2, api.ErrChanged)
	if s := a[3].Sight; !s.Dirty || !slices.Equal(s.Text, spell("bc")) {
		t.Errorf("%+v", s)
	}
	went(t, a[4], 4, api.OK)
	held(t, a[5], "bc")
	if a[6].Sight.Dirty {
		t.Error("dirty behind :w!")
	}
	// 8
	a = run(t, usual("a", "a", "abc"), typed("x"), api.Step{Kind: api.StepFaults, Faults: []api.Fault{fault(1, api.FaultAhead)}}, typed(":w⏎"), api.Step{Kind: api.StepRestart, Name: "a"}, seen)
	went(t, a[2], 2, api.ErrDown)
	if !same(a[3], api.Answer{}) || !slices.Equal(a[4].Sight.Text, spell("abc")) || a[4].Sight.Dirty {
		t.Errorf("%+v", a[4])
	}
	// 9
	a = run(t, usual("a", "a", "abc", "b", "d\n"), typed("yy:e b⏎p"), seen, typed("u:q⏎"), api.Step{Kind: api.StepKey, N: 'l'}, looked("b"))
	went(t, a[0], 8, api.OK)
	if !slices.Equal(a[1].Sight.Text, spell("d\nabc\n")) || a[1].Name != "b" {
		t.Errorf("%+v", a[1])
	}
	went(t, a[2], 4, api.OK)
	went(t, a[3], 0, api.ErrGone)
	held(t, a[4], "d\n")
	// 10
	a = run(t, usual("a", "a", "a b"), typed(`:s/a \(b\)/\1/⏎`), seen, typed(":wq⏎"), looked("a"), seen)
	if !slices.Equal(a[1].Sight.Text, spell("b")) {
		t.Errorf("%+v", a[1])
	}
	held(t, a[3], "b")
	went(t, a[4], 0, api.ErrGone)
	// 11
	a = run(t, usual(""), seen, typed("ihello␛:w n⏎"), looked("n"), seen)
	if !same(a[0], api.Answer{Enc: api.UTF8, Sight: api.Sight{Anchor: -1, Percent: 100, Set: api.Settings{Native: api.LF}}}) {
		t.Errorf("%+v", a[0])
	}
	held(t, a[2], "hello")
	if a[3].Name != "n" || a[3].Sight.Dirty {
		t.Errorf("%+v", a[3])
	}
	// 12
	a = run(t, in(api.Latin1, usual("a", "a", "\xE9a")), typed("i"), api.Step{Kind: api.StepKey, N: 0x20AC}, typed("␛x"), seen)
	went(t, a[1], 0, api.ErrFit)
	if !slices.Equal(a[3].Sight.Text, spell("a")) {
		t.Errorf("%+v", a[3])
	}
}

// TestExamplesOfTheWhole: the document's ten examples.
func TestExamplesOfTheWhole(t *testing.T) {
	for _, c := range []struct {
		enc              int
		file, keys, want string
	}{
		{api.Auto, "x\r\ny\nz\r", ":w⏎", "x\r\ny\nz\r"},
		{api.UTF8, "\xEF\xBB\xBFhi", "x:w⏎", "\xEF\xBB\xBFi"},
		{api.Auto, "\xFF\xFEa\x00\n\x00\x00\xD8", "jx:w⏎", "\xFF\xFEa\x00\n\x00"},
		{api.UTF8, "\xC3\x28", "lx:w⏎", "\xC3"},
		{api.Auto, "one\ntwo", "ddp:w⏎", "two\none"},
		{api.Auto, "a\rb\nc", "jcwz␛:w⏎", "a\rz\nc"},
		{api.Auto, "e\u0301x", "lx:w⏎", "e\u0301"},
		{api.Auto, "e\u0301x", "x:w⏎", "x"},
		{api.Auto, "a\nb\nc\n", "qaA.␛jq@a:w⏎", "a.\nb.\nc\n"},
		{api.Auto, "a\nb\nc\n", "qaA.␛jq@au:w⏎", "a.\nb\nc\n"},
		{api.Auto, "a\nb\nc\n", "qaA.␛jq@auu:w⏎", "a\nb\nc\n"},
	} {
		begin(t, in(c.enc, usual("a", "a", c.file))).does(c.keys).dirty(false).files("a", c.want).ends()
	}
	begin(t, usual("a", "a", "abc")).does("x").poke("a", "theirs").refuses("w", api.ErrChanged).sees("bc", 0).dirty(true).file("a", "theirs").does(":w!⏎").file("a", "bc").ends()
	begin(t, usual("a", "a", "abc")).does("x").faults(fault(1, api.FaultAhead)).refuses("w", api.ErrDown).restart("a", api.Cut{}, api.OK).files("a", "abc").ends()
}
