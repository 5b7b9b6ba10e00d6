package operate_test

import (
	"testing"

	"copyist/api"
)

// TestYankCursor, P1205: by characters to the beginning, by lines to the column of the cursor in the first line.
func TestYankCursor(t *testing.T) {
	for at, want := range map[int]int{-5: 0, 0: 0, 1: 0, 2: 2, 3: 2, 4: 0, 5: 2, 6: 2, 7: 2, 99: 2} {
		// two clusters above, three below
		load(t, "e\u0301x\nabc\n").at(at).does(yank('a', rows(0, 8)), api.OK).sees("e\u0301x\nabc\n", want)
	}
	load(t, "abc\n\ndef").at(7).does(yank('a', rows(4, 8)), api.OK).sees("abc\n\ndef", 4)
	for from, want := range map[int]int{0: 0, 1: 0, 2: 2, 3: 2, 4: 2, 5: 5} {
		load(t, "e\u0301x\r\ny").at(3).does(yank('a', chars(from, 6)), api.OK).sees("e\u0301x\r\ny", want)
	}
}

// TestTaken, P1205, P1206: what a register gets of a span, whatever its ends.
func TestTaken(t *testing.T) {
	text := "e\u0301\r\nb\n\nc"
	for s, want := range map[api.Span]api.Reg{
		chars(0, 1): byChars("e"), chars(1, 2): byChars("\u0301"), chars(1, 3): byChars("\u0301\r"), chars(3, 4): byChars("\n"), chars(0, 8): byChars(text),
		rows(0, 0): byLines("e\u0301\r\n"), rows(3, 4): byLines("e\u0301\r\n"), rows(3, 5): byLines("e\u0301\r\nb\n"), rows(6, 6): byLines("\n"),
		rows(6, 7): byLines("\n"), rows(7, 8): byLines("c\r\n"), rows(8, 8): byLines("c\r\n"), rows(0, 8): byLines(text + "\r\n"),
	} {
		x := load(t, text).does(yank('r', s), api.OK)
		x.holds('r', want)
		x.holds(0, want)
		x = load(t, text).does(remove('r', s), api.OK)
		x.holds('r', want)
		x = load(t, text).does(change('r', s), api.OK)
		x.holds('r', want)
	}
	for native, end := range map[int]string{api.LF: "\n", api.CRLF: "\r\n", api.CR: "\r", 0: "\n", 9: "\n"} {
		x := load(t, "a").native(native).does(yank(0, rows(0, 1)), api.OK)
		x.holds('0', byLines("a"+end))
		x = load(t, "a\n").native(native).does(yank(0, rows(2, 2)), api.OK) // the tail: the last line, which has a break
		x.holds('0', byLines("a\n"))
	}
}

// TestWhere, P1205 to P1207: registers by name, without a name, appended, and the hole.
func TestWhere(t *testing.T) {
	x := load(t, "ab\ncd\n")
	x.does(yank(0, chars(0, 1)), api.OK).does(yank('"', chars(1, 2)), api.OK)
	x.holds('0', byChars("b"))
	x.does(yank('A', chars(0, 1)), api.OK).does(yank('A', rows(3, 3)), api.OK)
	x.holds('a', byLines("a\ncd\n"))
	x.does(remove(0, chars(0, 1)), api.OK)
	x.holds('-', byChars("a"))
	x.does(remove(0, chars(0, 2)), api.OK)
	x.holds('1', byChars("b\n"))
	x.does(change(0, rows(0, 0)), api.OK)
	x.holds('1', byLines("cd\n"))
	x.holds('2', byChars("b\n"))
	x.sees("\n", 0)
	x.does(remove('_', rows(0, 0)), api.OK).sees("", 0)
	x.holds(0, byLines("cd\n"))
	x.does(change('_', rows(0, 0)), api.OK).does(yank('_', rows(0, 0)), api.OK)
	x.holds(0, byLines("cd\n"))
}

// TestDeleteLines, P1206: a missing last break stays missing; an empty line ahead keeps its break; what melts melts.
func TestDeleteLines(t *testing.T) {
	for _, c := range []struct {
		text   string
		s      api.Span
		behind string
		at     int
	}{
		{"a\n b", rows(2, 4), "a", 0}, {" a\nb", rows(3, 3), " a", 1}, {"a\n\nb", rows(3, 4), "a\n\n", 2}, {"\nb", rows(1, 1), "\n", 0},
		{"a\r\nb", rows(3, 3), "a", 0}, {"a\nb\n", rows(2, 3), "a\n", 0}, {"a\nb\n", rows(4, 4), "a\n", 0}, {"a\n  b\n", rows(0, 0), "  b\n", 2},
		{"a\rb\n\nc", rows(2, 3), "a\r\nc", 0}, {"a\nb\nc", rows(0, 5), "", 0}, {"\n", rows(0, 0), "", 0}, {"a", rows(0, 0), "", 0},
		{"a\nb\nc\nd", rows(2, 5), "a\nd", 2}, {"a\nb\nc\nd", rows(2, 7), "a", 0}, {"a\n  \nb", rows(5, 5), "a\n  ", 3},
	} {
		x := load(t, c.text).does(remove(0, c.s), api.OK)
		x.sees(c.behind, c.at)
		x.undo()
	}
}

// TestDeleteChars, P1206: the atoms themselves, wherever the span ends; the cursor is clamped in what is left.
func TestDeleteChars(t *testing.T) {
	load(t, "e\u0301x").at(2).does(remove(0, chars(0, 1)), api.OK).sees("\u0301x", 0)
	load(t, "e\u0301x").at(2).does(remove(0, chars(1, 2)), api.OK).sees("ex", 1)
	load(t, "ab\ncd").does(remove(0, chars(1, 2)), api.OK).sees("a\ncd", 0)
	load(t, "ab\ncd").does(remove(0, chars(1, 4)), api.OK).sees("ad", 1)
	load(t, "a\r\nb").does(remove(0, chars(1, 2)), api.OK).sees("a\nb", 0)
	load(t, "a\r\nb").does(remove(0, chars(2, 3)), api.OK).sees("a\rb", 2)
	load(t, "a\rb\n").does(remove(0, chars(2, 3)), api.OK).sees("a\r\n", 0)
	load(t, "ab").does(remove(0, chars(0, 2)), api.OK).sees("", 0)
	x := load(t, "aex\u0301").does(remove(0, chars(2, 3)), api.OK) // the accent joins what comes ahead of it
	x.sees("ae\u0301", 1)
	x.tags(0, 1, 3)
}

// TestChange, P1207: the last line's break stays; the cursor stands just where the text was.
func TestChange(t *testing.T) {
	load(t, "a\nbc\r\nd").does(change(0, rows(2, 3)), api.OK).sees("a\n\r\nd", 2)
	load(t, "a\nbc\r\nd").does(change(0, rows(0, 3)), api.OK).sees("\r\nd", 0)
	load(t, "a\nbc").does(change(0, rows(2, 3)), api.OK).sees("a\n", 2) // in the tail
	load(t, "a\n").does(change(0, rows(2, 2)), api.OK).sees("\n", 0)
	load(t, "a\n\nb").does(change(0, rows(2, 2)), api.OK).sees("a\n\nb", 2)
	load(t, "a\rb\nc").does(change(0, rows(2, 2)), api.OK).sees("a\r\nc", 2) // within what is a CRLF now
	load(t, "ab").does(change(0, chars(1, 2)), api.OK).sees("a", 1)
	load(t, "ae\u0301").does(change(0, chars(1, 2)), api.OK).sees("a\u0301", 1)
	load(t, "a\r\n").does(change(63, chars(2, 2)), api.OK).sees("a\r\n", 2)
	load(t, "a\r\n").does(change(63, chars(3, 3)), api.OK).sees("a\r\n", 3)
}
