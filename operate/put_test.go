package operate_test

import (
	"testing"

	"copyist/api"
)

// TestPutChars, P1208: behind the cluster of the cursor, or ahead of it; in an empty line there.
func TestPutChars(t *testing.T) {
	for _, c := range []struct {
		text   string
		at     int
		reg    string
		up     bool
		count  int
		behind string
		to     int
	}{
		{"ab", 0, "x", false, 1, "axb", 1}, {"ab", 0, "x", true, 1, "xab", 0}, {"ab", 1, "xy", false, 2, "abxyxy", 5}, {"ab", 99, "x", false, 1, "abx", 2},
		{"e\u0301b", 1, "x", false, 1, "e\u0301xb", 2}, {"e\u0301b", 1, "x", true, 1, "xe\u0301b", 0},
		{"ab", 0, "\u0301", false, 1, "a\u0301b", 0}, {"ab", 1, "\u0301", true, 3, "a\u0301\u0301\u0301b", 0},
		{"\na", 0, "x", false, 1, "x\na", 0}, {"", 5, "xy", false, 1, "xy", 1}, {"a\n", 9, "x", false, 1, "ax\n", 1}, {"a\r\n", 2, "x", false, 1, "ax\r\n", 1},
		{"a\n\n", 9, "x", false, 1, "a\nx\n", 2}, {"ab", 0, "x\ny", false, 1, "ax\nyb", 1}, {"ab", 1, "\nx", false, 1, "ab\nx", 1}, {"ab", 0, "\r", true, 2, "\r\rab", 0},
		{"a\nb", 0, "\r", false, 1, "a\r\nb", 0}, {"a\r\nb", 0, "\r", false, 1, "a\r\r\nb", 0}, {"a\rb", 2, "\n", true, 1, "a\r\nb", 0},
	} {
		x := load(t, c.text).at(c.at).bank('r', byChars(c.reg)).marked()
		x.does(put('r', c.up, c.count), api.OK)
		x.sees(c.behind, c.to)
		x.undo()
	}
}

// TestPutLines, P1208: above or below the cursor's line; behind a last line without a break its break stays missing.
func TestPutLines(t *testing.T) {
	for _, c := range []struct {
		text   string
		at     int
		reg    string
		up     bool
		count  int
		native int
		behind string
		to     int
	}{
		{"a\nb", 0, " x\n", false, 1, api.LF, "a\n x\nb", 3}, {"a\nb", 0, " x\n", true, 2, api.LF, " x\n x\na\nb", 1},
		{"a\nb", 2, " x\n", false, 1, api.LF, "a\nb\n x", 5}, {"a\nb", 2, " x\n", true, 1, api.LF, "a\n x\nb", 3},
		{"a", 0, "x\r\n", false, 1, api.LF, "a\nx", 2}, {"a", 0, "x\r\ny\r\n", false, 2, api.CRLF, "a\r\nx\r\ny\r\nx\r\ny", 3}, {"a", 0, "x\r", false, 2, api.CR, "a\rx\rx", 2},
		{"a", 0, "\n", false, 1, api.LF, "a\n", 0}, {"a", 0, "\r\n", false, 1, api.CR, "a\r", 0}, {"a", 0, "\n", false, 2, api.LF, "a\n\n", 2},
		{"a", 0, "\n", false, 2, api.CR, "a\r\n\n", 3}, {"a", 0, "\nx\r", false, 1, api.CR, "a\r\n\nx", 3}, {"a", 0, "\nx\n", false, 1, api.CRLF, "a\r\n\nx", 3},
		{"", 0, "\n", false, 1, api.LF, "\n", 0}, {"", 0, "x\n", false, 1, api.LF, "\nx", 1}, {"", 0, "x\n", true, 1, api.LF, "x\n", 0},
		{"a\n", 9, "x\n", false, 1, api.LF, "a\nx\n", 2}, {"a\n", 9, "x\n", true, 1, api.LF, "x\na\n", 0},
		{"a\rb", 0, "\n", false, 1, api.LF, "a\r\nb", 0}, {"a\rb", 2, "\n", true, 1, api.LF, "a\r\nb", 0}, {"a\n\nb", 2, "x\r", true, 1, api.LF, "a\nx\r\nb", 2},
		{"a", 0, "  \n", false, 1, 77, "a\n  ", 3}, {"a\n", 0, "  \n", false, 1, api.LF, "a\n  \n", 3},
	} {
		x := load(t, c.text).native(c.native).at(c.at).bank('r', byLines(c.reg)).marked()
		x.does(put('r', c.up, c.count), api.OK)
		x.sees(c.behind, c.to)
		x.undo()
	}
}

// TestPutFrom, P1208: registers of every sort; what was put is new.
func TestPutFrom(t *testing.T) {
	x := load(t, "ab\n").does(yank('a', chars(0, 1)), api.OK).does(yank('A', chars(1, 2)), api.OK)
	x.at(0).does(put('A', true, 1), api.OK).sees("abab\n", 1)
	x.tags(-1, -1, 0, 1, 2)
	x.d.Bank.Set('.', spell("t"))
	x.p.bank.Set('.', spell("t"))
	x.does(put('.', false, 1), api.OK).sees("abtab\n", 2)
	x.does(put('"', false, 1), api.OK).sees("abtabab\n", 4)
	x.does(remove(0, rows(0, 1)), api.OK).does(put(0, true, 1), api.OK).sees("abtabab\n", 0)
	x.tags(-1, -1, -1, -1, -1, -1, -1, -1)
	x.does(put('_', true, 1), api.ErrEmpty).does(put('b', true, 1), api.ErrEmpty)
}

// TestPutElsewhere: a register of another encoding's text is put, if all of it fits.
func TestPutElsewhere(t *testing.T) {
	x := open(t, api.UTF16LE, bytesOf(t, api.UTF16LE, []int{'a', 0xD800}), 100)
	x.does(yank('r', chars(0, 2)), api.OK)
	for enc, want := range map[int]api.Errno{api.UTF8: api.ErrFit, api.Latin1: api.ErrFit, api.UTF16BE: api.OK} {
		y := open(t, enc, nil, 100)
		y.d.Bank, y.p.bank = x.d.Bank.Copy(), x.p.bank.Copy()
		y.does(put('r', false, 1), want)
	}
}
