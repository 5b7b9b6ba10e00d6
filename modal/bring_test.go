package modal_test

import (
	"math"
	"slices"
	"testing"

	"copyist/api"
)

// TestBring, P1820: behind every line, of texts with a last break and without, with each native break.
func TestBring(t *testing.T) {
	for _, c := range []struct {
		text   string
		line   int
		put    string
		native int
		want   string
		at     int
	}{
		{"a\nb\n", 0, "x", 1, "x\na\nb\n", 0}, {"a\nb\n", 1, "x", 1, "a\nx\nb\n", 2}, {"a\nb\n", 2, "x", 1, "a\nb\nx\n", 4}, {"a\nb\n", 0, "x\n", 1, "x\na\nb\n", 0}, {"a\nb\n", 1, "x\ny\n", 1, "a\nx\ny\nb\n", 2}, {"a\nb\n", 2, "\n", 1, "a\nb\n\n", 4},
		{"a\nb", 0, "x", 1, "x\na\nb", 0}, {"a\nb", 1, "  x", 1, "a\n  x\nb", 4}, {"a\nb", 2, "x", 1, "a\nb\nx", 4}, {"a\nb", 2, "x\n", 1, "a\nb\nx", 4}, {"a\nb", 2, "x\ny\n", 1, "a\nb\nx\ny", 4}, {"a\nb", 2, "\n", 1, "a\nb\n", 2}, {"a\nb", 2, "\r\n", 1, "a\nb\n", 2}, {"a\nb", 2, "\n\n", 1, "a\nb\n\n", 4}, {"a\nb", 2, "x\r\n", 1, "a\nb\nx", 4},
		{"", 0, "x", 1, "x\n", 0}, {"", 1, "x", 1, "\nx", 1}, {"", 1, "\n", 1, "\n", 0}, {"", 0, "\n", 1, "\n", 0},
		{"a", 0, "x", 2, "x\r\na", 0}, {"a", 1, "x", 2, "a\r\nx", 3}, {"a", 1, "x\ny\n", 2, "a\r\nx\ny", 3}, {"a", 0, "x", 3, "x\ra", 0}, {"a", 1, "x", 3, "a\rx", 2}, {"a", 1, "\n", 3, "a\r", 0}, {"a", 1, "\n\n", 3, "a\r\n\n", 3}, {"a", 1, "\nx", 3, "a\r\n\nx", 3}, {"a", 1, "\r", 3, "a\r", 0},
		// whole lines melt as they may
		{"a\rb", 1, "\nx", 3, "a\r\nx\rb", 0}, {"\nb", 0, "x\r", 1, "x\r\nb", 0}, {"\nb", 0, "x", 3, "x\r\nb", 0},
	} {
		x := usual.broken(c.native).load(t, []byte(c.text))
		x.both(setNative(c.native))
		x.brings(c.line, spell(c.put), api.OK)
		if s := x.m.See(); show(s.Text) != c.want || s.At != c.at || !s.Dirty {
			t.Errorf("%q, line %d, %q: %q, At %d; want %q, %d", c.text, c.line, c.put, show(s.Text), s.At, c.want, c.at)
		}
		// one group, with the cursor that there was
		x.does("u").sees(c.text, 0).refuses('u', api.ErrOldest).does("␒").sees(c.want, c.at)
	}
}

// TestBringOdd, P1820: raw bytes and lone units, where they fit.
func TestBringOdd(t *testing.T) {
	x := load(t, "a").brings(1, []int{-1 - 0xC3, 'b'}, api.OK)
	if s := x.m.See(); !slices.Equal(s.Text, []int{'a', 10, -1 - 0xC3, 'b'}) || !slices.Equal(s.Tags, []int{0, -1, -1, -1}) {
		t.Errorf("%+v", s)
	}
	x.brings(1, []int{0xD800}, api.ErrFit).brings(1, []int{-1}, api.ErrFit)
	s := setup{api.UTF16BE, 100, api.LF, 5, 5}
	s.load(t, nil).brings(0, []int{0xD800, -1, -256, 0x10FFFF, 0}, api.OK)
	setup{api.Latin1, 100, api.LF, 5, 5}.load(t, nil).brings(0, []int{0xFF}, api.OK).brings(0, []int{0x100}, api.ErrFit).brings(0, []int{-1}, api.ErrFit)
}

// TestBringErrors, P1820: each, in its order; nothing has changed.
func TestBringErrors(t *testing.T) {
	for _, keys := range []string{"v", "V", "i", "R", ":", "/", "?", "d/", "v/", "cw", "i␖"} {
		load(t, "ab\n").does(keys).brings(-1, []int{1 << 40}, api.ErrArg).brings(0, nil, api.ErrArg).brings(0, spell("x"), api.ErrArg).brings(9, nil, api.ErrArg)
	}
	x := load(t, "ab\ncd\n").does("jlqa2\"b")
	for _, line := range []int{-1, 3, math.MinInt, math.MaxInt} {
		x.brings(line, []int{1 << 40}, api.ErrLine).brings(line, nil, api.ErrLine).brings(line, spell("x"), api.ErrLine)
	}
	for _, atom := range []int{-257, 0x110000, math.MinInt, math.MaxInt} {
		x.brings(1, []int{'a', atom}, api.ErrRange).brings(2, []int{atom, 0xD800}, api.ErrRange)
	}
	x.brings(0, nil, api.OK).brings(2, []int{}, api.OK).brings(1, []int{0xD800}, api.ErrFit)
	if s := x.m.See(); s.At != 4 || s.Dirty || !slices.Equal(s.Pending, spell("2\"b")) {
		t.Errorf("%+v", s)
	}
	y := usual.limited(6).load(t, []byte("ab\nc")).brings(2, spell("x"), api.OK).brings(0, spell("x"), api.ErrFull).brings(3, spell("\n"), api.ErrFull)
	y.sees("ab\nc\nx", 5)
	usual.limited(6).load(t, []byte("ab\nc")).brings(1, spell("xy"), api.ErrFull).brings(1, []int{0xD800, 'x', 'y', 'z'}, api.ErrFit)
	usual.load(t, nil).brings(0, make([]int, 100000), api.ErrFull)
}

// TestBringGoalAndTop, P1820: they follow where it was brought, and only there.
func TestBringGoalAndTop(t *testing.T) {
	x := usual.high(2).load(t, []byte("abc\nabc\nabc\nabc\n")).does("$")
	x.brings(4, spell("\tx\n y"), api.OK).seen(api.Sight{Anchor: -1, At: 17, Percent: 83, Top: 3, Cell: 8, Dirty: true}).does("k").at(13)
	x = usual.high(2).load(t, []byte("abc\nabc\nabc\nabc\n")).does("$")
	x.brings(9, spell("x"), api.ErrLine).brings(1, nil, api.OK).brings(1, []int{0xD800}, api.ErrFit).does("j").at(6)
	x = usual.high(2).load(t, []byte("abc\nabc\nabc\nabc\n")).does("Gk")
	x.brings(0, spell("  q"), api.OK).seen(api.Sight{Anchor: -1, At: 2, Percent: 20, Cell: 2, Dirty: true}).does("j").at(6)
	// pending keys wait on
	load(t, "ab\ncd\n").does("2d").brings(0, spell("x"), api.OK).does("d").sees("cd\n", 0)
}
