package copyist_test

import (
	"strings"
	"testing"

	"copyist/api"
)

// TestEdit, P1905: another file, the text's own again, one that isn't there yet.
func TestEdit(t *testing.T) {
	x := begin(t, usual("a", "a", "abc", "b", mark16+"d\x00")).faults().does(":e b⏎").steps(2).named("b", api.UTF16LE, 2).sees("d", 0).dirty(false)
	x.does("x:w⏎").files("a", "abc", "b", mark16).does(":e a⏎").named("a", api.UTF8, 0).sees("abc", 0)
	x.faults().does(":e n⏎").steps(1).named("n", api.UTF8, 0).sees("", 0).files("a", "abc", "b", mark16).does("iq␛:w⏎").file("n", "q").ends()
	// its own, as it is now
	x = begin(t, usual("a", "a", "abc")).poke("a", mark8+"theirs").does("l:e⏎").named("a", api.UTF8, 3).sees("theirs", 0).does("x:w⏎").file("a", mark8+"heirs")
	x.does("x").refuses("e", api.ErrDirty).does(":e!⏎").sees("heirs", 0).dirty(false).does("x:e! a⏎").sees("heirs", 0).does(":edit a⏎").ends()
	// nothing of the past is left
	begin(t, usual("a", "a", "abc", "b", "d")).does("x:w⏎:e b⏎").answers("u", api.ErrOldest).answers("␒", api.ErrNewest).does("xu:e a⏎").answers("␒", api.ErrNewest).ends()
	// the text that is given up is not saved
	begin(t, usual("a", "a", "abc", "b", "d")).does("x:e! b⏎:w⏎").files("a", "abc", "b", "d").ends()
	// a text without a name that is not dirty is given up; one that is dirty isn't
	begin(t, usual("", "a", "abc")).does(":e a⏎").named("a", api.UTF8, 0).sees("abc", 0).ends()
	begin(t, usual("", "a", "abc")).does("ix␛").refuses("e a", api.ErrDirty).does(":e! a⏎").sees("abc", 0).ends()
	// the encoding is the setup's, not the text's
	begin(t, in(api.Latin1, usual("a", "a", "\xE9", "b", mark8))).does(":e b⏎").named("b", api.Latin1, 0).ends()
	begin(t, usual("a", "a", mark16, "b", "\xC3\xA9")).does(":e b⏎").named("b", api.UTF8, 0).sees("é", 0).ends()
}

// TestEditErrors, P1905: each error, in its order.
func TestEditErrors(t *testing.T) {
	s := usual("a", "a", "abc", "long", "abcdefgh")
	s.Limit = 5
	x := begin(t, s)
	for _, name := range badNames {
		x.refuses("e "+name, api.ErrName).refuses("e! "+name, api.ErrName)
	}
	x.refuses("e long", api.ErrFull).refuses("e! long", api.ErrFull)
	// a dirty text goes ahead of a name that may not be, and of what the disk says
	x.does("x").faults(fault(1, api.FaultAhead))
	for _, line := range []string{"e", "e a", "e x/y", "e long", "e n"} {
		x.refuses(line, api.ErrDirty)
	}
	x.steps(0).refuses("e! x/y", api.ErrName).steps(0).refuses("e! long", api.ErrDown).ends()
	// no name
	x = begin(t, usual("", "a", "abc")).refuses("e", api.ErrNoName).refuses("e!", api.ErrNoName).does("ix␛").refuses("e", api.ErrDirty).refuses("e!", api.ErrNoName).named("", api.UTF8, 0)
	x.sees("x", 0).ends()
	// what the disk refuses leaves the session as it is
	for step := 1; step <= 2; step++ {
		for _, kind := range kindsOfFaults {
			x := begin(t, usual("a", "a", "abc", "b", "d")).does("yyx").faults(fault(step, kind))
			want := api.ErrIO
			if kind >= api.FaultAhead {
				want = api.ErrDown
			}
			x.refuses("e! b", want).named("a", api.UTF8, 0).sees("bc", 0).dirty(true).does("u").dirty(false)
			if want == api.ErrIO {
				x.faults().does(":e b⏎").sees("d", 0)
			}
			x.ends()
		}
	}
}

// TestTakenOver, P1905: the registers, what was sought, the last substitution, two of the settings.
func TestTakenOver(t *testing.T) {
	x := begin(t, usual("a", "a", "foo bar\nfoo\n", "b", "FOO bar\r\nbar foo\r\n"))
	x.does("\"ayy\"bylx:set ic nows⏎:s/b/<&>/⏎:w⏎/foo⏎ma")
	regs := x.state().regs
	x.does(":e b⏎")
	now := x.state()
	regs[':'] = api.Reg{Text: spell("e b")}
	if len(regs) < 6 || !now.equal(state{now.sight, regs}) {
		t.Errorf("%+v, want %+v", now.regs, regs)
	}
	if s := now.sight.Sight; s.Set != (api.Settings{IgnoreCase: true, NoWrap: true, Native: api.CRLF}) {
		t.Errorf("%+v", s.Set)
	}
	// Find: whatever the case, and not round the end
	x.does("n").sees("FOO bar\r\nbar foo\r\n", 13).answers("n", api.ErrMatch)
	// Sub
	x.does("&").sees("FOO bar\r\n<b>ar foo\r\n", 9)
	// registers, and a text of another line's break
	x.does("gg\"ap").sees("FOO bar\r\nfoo bar\n<b>ar foo\r\n", 9).ends()
	// what doesn't fit the other file's encoding is refused
	begin(t, usual("a", "a", "€", "b", mark16+"x\x00", "c", "\xE9")).does("yl:e b⏎p").sees("x€", 1).does(":w⏎").file("b", mark16+"x\x00\xAC\x20").does(":e c⏎").named("c", api.Latin1, 0).answers("p", api.ErrFit).sees("é", 0).dirty(false).ends()
	// a second file, and back
	begin(t, usual("a", "a", "1\n", "b", "2\n")).does("yy:e b⏎\"qyy:e a⏎\"qpP").sees("1\n2\n2\n", 2).ends()
}

// TestNotTakenOver, P1905: nothing else.
func TestNotTakenOver(t *testing.T) {
	lots := strings.Repeat("ab ab\n", 30)
	start := func(keys string) *pair {
		return begin(t, usual("a", "a", lots, "b", lots)).does(keys + ":w⏎:e b⏎")
	}
	// the native break
	if s := start(":set br=crlf⏎").see().Sight; s.Set.Native != api.LF {
		t.Errorf("%+v", s.Set)
	}
	// cursor, window, goal column
	if s := start("20Gwzt$").see().Sight; s.At != 0 || s.Top != 0 || s.Cell != 0 {
		t.Errorf("%+v", s)
	}
	start("$").does("j").sees(lots, 6)
	// marks, the last find, the last selection, the last change, what was played last
	start("jma").answers("`a", api.ErrMark)
	start("Gk").answers("`'", api.ErrMark)
	start("fb").answers(";", api.ErrMove)
	start("vl␛").answers("gv", api.ErrNothing)
	start("vl␛").answers("`<", api.ErrMark)
	start("x").answers(".", api.ErrNothing)
	start("qalq@a").answers("@@", api.ErrEmpty)
	// the direction of the last search: forward
	start("G?b⏎").does("n").sees(lots, 1)
	// a recording: it is given up, and its register stays as it was
	x := start("qax")
	if s := x.see().Sight; s.Record != 0 {
		t.Errorf("%+v", s)
	}
	x.empty('a').does("qblq").holds('b', api.ByChars, "l")
	// with force: pending changes, and their past
	begin(t, usual("a", "a", "abc", "b", "d")).does("xxma:e! b⏎").answers("u", api.ErrOldest).answers("`a", api.ErrMark).dirty(false).ends()
}
