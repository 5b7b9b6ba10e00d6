package register_test

import (
	"testing"

	"copyist/api"
	"copyist/register"
)

// TestExamples: the chapter's table, row by row, each going on from the one ahead of it.
func TestExamples(t *testing.T) {
	b := register.New()
	empty(t, b, 34, 97)
	if _, err := b.Get(63); err != api.ErrReg {
		t.Fatal(err)
	}

	is(t, "Yank(0)", b.Yank(0, chars("ab")), api.OK)
	holds(t, b, chars("ab"), 0, 48, 34)

	is(t, "Yank(97)", b.Yank(97, rows("x")), api.OK)
	holds(t, b, rows("xn"), 97, 34)
	holds(t, b, chars("ab"), 48)

	is(t, "Yank(65)", b.Yank(65, chars("y")), api.OK)
	holds(t, b, rows("xnyn"), 97, 65)

	is(t, "Delete(0)", b.Delete(0, chars("q")), api.OK)
	holds(t, b, chars("q"), 45, 34)

	is(t, "Delete(34)", b.Delete(34, chars("unv")), api.OK)
	holds(t, b, chars("unv"), 49, 34)
	holds(t, b, chars("q"), 45)

	is(t, "Delete(0)", b.Delete(0, rows("")), api.OK)
	holds(t, b, rows("n"), 49)
	holds(t, b, chars("unv"), 50)

	is(t, "Set(98)", b.Set(98, spell("k")), api.OK)
	is(t, "Yank(66)", b.Yank(66, rows("zrn")), api.OK)
	holds(t, b, rows("krnzrn"), 98, 34)

	was := look(b)
	is(t, "Yank(0), nothing", b.Yank(0, chars("")), api.OK)
	is(t, "Yank(95)", b.Yank(95, rows("hole")), api.OK)
	stays(t, "nothing, and the hole", b, was)

	is(t, "Yank(58)", b.Yank(58, chars("a")), api.ErrRead)
	is(t, "Set(58)", b.Set(58, spell("wq")), api.OK)
	holds(t, b, chars("wq"), 58)
	holds(t, b, rows("krnzrn"), 34)

	is(t, "Yank(63)", b.Yank(63, api.Reg{Kind: 7, Text: spell("a")}), api.ErrReg)
	is(t, "Yank(46)", b.Yank(46, api.Reg{Kind: 7, Text: spell("a")}), api.ErrRead)
	is(t, "Yank(97)", b.Yank(97, api.Reg{Kind: 7, Text: spell("a")}), api.ErrArg)

	named(t, b, 45, 48, 49, 50, 58, 97, 98)
}

// TestNew, P1101: every register is empty, the unnamed one points to nothing, and no two banks have anything in common.
func TestNew(t *testing.T) {
	b, other := register.New(), register.New()
	empty(t, b, writable()...)
	empty(t, b, keeps...)
	empty(t, b, 0, '"', '_')
	if n := b.Names(); len(n) != 0 {
		t.Fatal(n)
	}
	b.Yank('a', chars("a"))
	b.Delete(0, rows("b"))
	empty(t, other, 'a', '1', 0)
	named(t, other)
	empty(t, register.New(), 'a', '1', 0)
}
