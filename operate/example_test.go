package operate_test

import (
	"testing"

	"copyist/api"
)

// TestExamples: the chapter's table, row by row.
func TestExamples(t *testing.T) {
	x := load(t, "abc def").does(remove(0, chars(0, 4)), api.OK)
	x.sees("def", 0)
	x.holds(45, byChars("abc "))

	x = load(t, "a\nb\nc").at(2).does(remove(0, rows(2, 3)), api.OK)
	x.sees("a\nc", 2)
	x.holds(49, byLines("b\n"))

	x = load(t, "a\nb").at(2).does(remove(0, rows(2, 2)), api.OK)
	x.sees("a", 0)
	x.holds(49, byLines("b\n"))

	x = load(t, "a\r\nb").does(yank(0, rows(3, 4)), api.OK)
	x.sees("a\r\nb", 3)
	x.holds(48, byLines("b\r\n"))

	x = load(t, "").does(remove(0, rows(0, 0)), api.ErrNothing)
	x.does(yank(0, rows(0, 0)), api.OK)
	x.sees("", 0)
	x.holds(48, byLines("\n"))

	x = load(t, "a\n").does(change(0, rows(0, 1)), api.OK)
	x.sees("\n", 0)
	x.holds(49, byLines("a\n"))

	x = load(t, "a\rb\nc").native(api.LF).does(change(0, chars(2, 3)), api.OK).does(typing('z'), api.OK)
	x.sees("a\rz\nc", 3)
	x.holds(45, byChars("b"))

	x = load(t, "abc").does(typing('x', 'y'), api.OK).does(typing('x', 'y'), api.OK)
	x.sees("xyxyabc", 4)

	x = load(t, "\n\rb").at(2).does(typing(10), api.OK)
	x.sees("\n\r\r\nb", 4)

	x = load(t, "ab").does(remove(0, chars(0, 1)), api.OK).does(put(0, false, 2), api.OK)
	x.sees("baa", 2)

	x = load(t, "a").does(yank(0, rows(0, 1)), api.OK).does(put(0, false, 2), api.OK)
	x.sees("a\na\na", 2)

	x = load(t, "a\n").does(yank(0, rows(0, 1)), api.OK).does(put(0, true, 1), api.OK)
	x.sees("a\na\n", 0)

	x = load(t, "aBß1").does(turn(api.VUpper, chars(0, 4)), api.OK)
	x.sees("ABß1", 0)
	x.tags(-1, 1, 2, 4)

	x = load(t, "a\n\nb").does(shift(rows(0, 5), 2), api.ErrRange).does(shift(rows(0, 4), 2), api.OK)
	x.sees("\t\ta\n\n\t\tb", 2)

	load(t, "      \tx").does(shift(rows(0, 0), -2), api.OK).sees("\tx", 1)
	load(t, "      \tx").does(shift(rows(0, 0), -3), api.OK).sees("x", 0)

	load(t, "a\n  b\n\n)\nc").does(join(0, 3, false), api.OK).sees("a b)\nc", 3)

	x = load(t, "a\nb").does(join(1, 1, true), api.ErrNothing).does(join(0, 2, true), api.ErrRange)
	x.does(join(0, 1, true), api.OK).sees("ab", 1)

	x = load(t, "abc").at(1).does(over(2, 'x'), api.OK)
	x.sees("axx", 2)
	x.does(over(3, 'x'), api.ErrNothing)

	load(t, "abc\n").at(1).does(over(2, 10), api.OK).sees("a\n\n", 2)
}
