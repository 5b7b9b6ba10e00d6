package modal_test

import (
	"slices"
	"testing"

	"copyist/api"
)

// TestExamples: the chapter's examples, each of them.
func TestExamples(t *testing.T) {
	load(t, "ab\ncd").does("jx").sees("ab\nd", 3).does("u").sees("ab\ncd", 3)
	load(t, "a b c").does("dw").sees("b c", 0).does(".").sees("c", 0)
	load(t, "one").does("A!␛").sees("one!", 3).does("2.").sees("one!!!", 5)
	load(t, "x").does("oy␛").sees("x\ny", 2)
	load(t, "x\n").does("o␛").sees("x\n\n", 2).does("u").sees("x\n", 0)
	load(t, "a").does("A⏎␛").sees("a\n", 0)
	load(t, "foo bar foo").does("*").at(8).does("N").at(0).does("cwz␛").sees("z bar foo", 0)
	load(t, "ab\ncd\nef").does("Vj>").sees("\tab\n\tcd\nef", 1)
	x := load(t, "a1 a2").does("qxcwb␛wq").sees("b a2", 2)
	if r, err := x.m.Reg('x'); err != api.OK || r.Kind != api.ByChars || !slices.Equal(r.Text, []int{99, 119, 98, 27, 119}) {
		t.Errorf("%+v, %d", r, err)
	}
	x = load(t, "abc").refuses(-7, api.ErrKey)
	x.does("d").refuses(0x2603, api.ErrKey)
	if pending := x.m.See().Pending; len(pending) != 0 {
		t.Errorf("the d is still pending: %v", pending)
	}
	x.does("w")
}

// TestExamplesOfTheWhole: the ten examples of the document that speak of keys alone.
func TestExamplesOfTheWhole(t *testing.T) {
	x := load(t, "x\r\ny\nz\r")
	if n := x.m.See().Percent; n != 33 {
		t.Errorf("three lines: %d", n)
	}
	if w, err := x.key(':'); err != api.OK || w != (api.Wish{}) {
		t.Errorf("%+v, %d", w, err)
	}
	x.does("w")
	if w, err := x.key(13); err != api.OK || w != (api.Wish{Verb: api.XWrite}) {
		t.Errorf("%+v, %d", w, err)
	}
	load(t, "one\ntwo").does("ddp").sees("two\none", 4)
	load(t, "a\rb\nc").does("jcw").sees("a\r\nc", 2).does("z␛").sees("a\rz\nc", 2)
	load(t, "e\u0301x").does("l").at(2).does("x").sees("e\u0301", 0)
	load(t, "e\u0301x").does("x").sees("x", 0)
	load(t, "a\nb\nc\n").does("qaA.␛jq@a").sees("a.\nb.\nc\n", 6).does("u").sees("a.\nb\nc\n", 3).does("u").sees("a\nb\nc\n", 0)
}
