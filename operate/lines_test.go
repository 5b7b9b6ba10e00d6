package operate_test

import (
	"slices"
	"testing"

	"copyist/api"
	"copyist/codec"
)

// TestCase, P1209.
func TestCase(t *testing.T) {
	for _, c := range []struct {
		text   string
		how    int
		s      api.Span
		behind string
		at     int
	}{
		{"aBc", api.VUpper, chars(1, 3), "aBC", 1}, {"aBc", api.VLower, chars(0, 3), "abc", 0}, {"aBc", api.VFlip, chars(0, 3), "AbC", 0},
		{"ab\ncd\nef", api.VUpper, rows(1, 4), "AB\nCD\nef", 0}, {"ab\ncd\nef", api.VUpper, rows(4, 4), "ab\nCD\nef", 3}, {"ab\n", api.VUpper, rows(3, 3), "AB\n", 0},
		{"ab\ncd", api.VUpper, chars(1, 4), "aB\nCd", 1}, {"e\u0301", api.VUpper, chars(0, 1), "E\u0301", 0}, {"ae\u0301", api.VUpper, chars(2, 3), "ae\u0301", 1},
		{"a\r\nb", api.VFlip, chars(2, 4), "a\r\nB", 0}, {"\u1e9e\u00df\u0131", api.VFlip, chars(0, 3), "\u00df\u00dfI", 0}, {"12 -", api.VFlip, chars(0, 4), "12 -", 0},
	} {
		x := load(t, c.text).marked().does(turn(c.how, c.s), api.OK)
		x.sees(c.behind, c.at)
	}
	for _, how := range []int{0, 4, 8, -1, 1 << 32, api.VUpper + 1<<32} {
		load(t, "ab").does(turn(how, chars(0, 1)), api.ErrArg).does(turn(how, chars(0, 9)), api.ErrArg)
	}
}

// TestCaseFits, P1209: an atom whose other letter the encoding has no bytes for stays, with its tag.
func TestCaseFits(t *testing.T) {
	text := []int{0xFF, 0xB5, 0xE9, 'a'}
	for _, enc := range encodings {
		x := open(t, enc, bytesOf(t, enc, text), 100).marked().does(turn(api.VUpper, chars(0, 4)), api.OK)
		got := lookAt(x.d)
		if enc != api.Latin1 {
			if !slices.Equal(got.Atoms, []int{0x178, 0x39C, 0xC9, 'A'}) || !slices.Equal(got.Tags, []int{-1, -1, -1, -1}) {
				t.Errorf("%+v", got)
			}
			continue
		}
		if !slices.Equal(got.Atoms, []int{0xFF, 0xB5, 0xC9, 'A'}) || !slices.Equal(got.Tags, []int{0, 1, -1, -1}) {
			t.Errorf("%+v", got)
		}
	}
	// a pictograph's small letter is none: what was one cluster are two
	load(t, "\u24c2\u200d\u24c2").does(turn(api.VLower, chars(2, 3)), api.OK).sees("\u24c2\u200d\u24dc", 2)
	x := open(t, api.UTF16LE, bytesOf(t, api.UTF16LE, []int{'a', 0xD800, 'c', -1 - 'b'}), 100).does(turn(api.VUpper, rows(0, 0)), api.OK)
	if got := lookAt(x.d).Atoms; !slices.Equal(got, []int{'A', 0xD800, 'C', -1 - 'b'}) {
		t.Errorf("%v", got)
	}
}

// TestShift, P1210.
func TestShift(t *testing.T) {
	for _, c := range []struct {
		text   string
		s      api.Span
		steps  int
		behind string
		at     int
	}{
		{"a\n\nb\n", rows(0, 4), 1, "\ta\n\n\tb\n", 1}, {"a\n\nb\n", chars(2, 3), 3, "a\n\nb\n", 2}, {"a\nb\n", chars(4, 4), 1, "a\n\tb\n", 3},
		{" a", chars(0, 0), 2, "\t\t a", 3}, {"  \n", chars(0, 1), 1, "\t  \n", 2}, {"\r\n", rows(0, 1), 1, "\r\n", 0},
		{"\t    \t x", chars(3, 3), -1, "    \t x", 6}, {"\t    \t x", chars(0, 1), -2, "\t x", 2}, {"\t    \t x", chars(0, 1), -3, " x", 1}, {"\t    \t x", chars(0, 1), -99, "x", 0},
		{"     x", chars(0, 1), -1, " x", 1}, {"   x", chars(0, 1), -1, "x", 0}, {" \tx", chars(0, 1), -1, "\tx", 1}, {"x  ", rows(0, 1), -1, "x  ", 0},
		{"    ", rows(0, 1), -1, "", 0}, {"    \n    a\n", rows(0, 8), -1, "\na\n", 0}, {"\u00a0x", rows(0, 1), -1, "\u00a0x", 1},
		{"a\r \nb", rows(2, 2), -1, "a\r\nb", 0}, {"a\r \nb", rows(2, 4), -1, "a\r\nb", 0}, {"x\n a", rows(3, 3), -1, "x\na", 2}, {" \u0301a", rows(0, 1), -1, "\u0301a", 0},
	} {
		x := load(t, c.text).marked().does(shift(c.s, c.steps), api.OK)
		x.sees(c.behind, c.at)
	}
}

// TestJoin, P1211.
func TestJoin(t *testing.T) {
	for _, c := range []struct {
		text        string
		first, last int
		bare        bool
		behind      string
		at          int
	}{
		{"a\nb", 0, 1, false, "a b", 1}, {"a\nb\n", 0, 1, false, "a b\n", 1}, {"a\r\nb\rc\nd", 0, 3, false, "a b c d", 5}, {"a\n \t b", 0, 1, false, "a b", 1},
		{"a \nb", 0, 1, false, "a b", 2}, {"a\t\n b", 0, 1, false, "a\tb", 2}, {"\nb", 0, 1, false, "b", 0}, {"\n  b\n", 0, 1, false, "b\n", 0},
		{"a\n", 0, 0, false, "a\n", 0}, {"a\n\n", 0, 1, false, "a\n", 0}, {"a\n  \n", 0, 1, false, "a\n", 0}, {"a\n\nb", 0, 2, false, "a b", 1},
		{"a\n)b", 0, 1, false, "a)b", 1}, {"a\n  )", 0, 1, false, "a)", 1}, {"a\n]", 0, 1, false, "a ]", 1}, {"(\na", 0, 1, false, "( a", 1},
		{"a\n \u0301b", 0, 1, false, "a  \u0301b", 1}, {"a\n  \u0301b", 0, 1, false, "a  \u0301b", 1}, {"a\n\u0301b", 0, 1, false, "a \u0301b", 1}, {"a\u00a0\nb", 0, 1, false, "a\u00a0b", 2},
		{"x\r\r \nb", 1, 2, false, "x\r\nb", 0}, {"x\n\n\n\ny", 1, 4, false, "x\ny", 2}, {"\n\n", 0, 1, false, "\n", 0}, {"a\nb\nc", 1, 2, false, "a\nb c", 3},
		{"a\n b", 0, 1, true, "a b", 1}, {"a\r\nb\rc", 0, 2, true, "abc", 2}, {"\n\n\n", 0, 2, true, "\n", 0}, {"a\n\u0301", 0, 1, true, "a\u0301", 0}, {"a \n )", 0, 1, true, "a  )", 2},
		{"a\r\r\nb", 0, 1, true, "a\r\nb", 0}, {"a\n\r", 0, 1, true, "a\r", 0},
	} {
		want := api.OK
		if c.first == c.last {
			want = api.ErrNothing
		}
		x := load(t, c.text).marked().does(join(c.first, c.last, c.bare), want)
		x.sees(c.behind, c.at)
	}
	x := load(t, "a\r\n  b\nc").does(join(0, 2, false), api.OK)
	x.sees("a b c", 3)
	x.tags(0, -1, 5, -1, 7)
}

// TestType, P1212: just where the cursor is set, clamped to nothing but the text.
func TestType(t *testing.T) {
	for _, c := range []struct {
		text   string
		at     int
		native int
		typed  string
		behind string
		to     int
	}{
		{"ab", 1, api.LF, "xy", "axyb", 3}, {"ab", -9, api.LF, "x", "xab", 1}, {"ab", 99, api.LF, "x", "abx", 3}, {"", 0, api.LF, "", "", 0}, {"ab", -9, api.LF, "", "ab", 0}, {"ab", 99, api.LF, "", "ab", 2},
		{"e\u0301", 1, api.LF, "x", "ex\u0301", 2}, {"e", 1, api.LF, "\u0301", "e\u0301", 2}, {"a\r\nb", 2, api.LF, "x", "a\rx\nb", 3}, {"a\n", 2, api.LF, "x", "a\nx", 3},
		{"a\r\nb", 2, api.LF, "\n", "a\r\r\n\nb", 4}, {"a\r\nb", 2, api.CRLF, "\n", "a\r\r\n\nb", 4}, {"a\r\nb", 2, api.CR, "\n", "a\r\r\n\nb", 4},
		{"a\r\nb", 2, api.CR, "\n\n", "a\r\r\r\n\nb", 5}, {"a\r\nb", 2, api.LF, "\n\n", "a\r\r\n\n\nb", 5}, {"a\nb", 1, api.CR, "\nx", "a\rx\nb", 3}, {"ab", 1, 77, "\n", "a\nb", 2},
		{"ab", 1, api.CRLF, "\n", "a\r\nb", 3}, {"ab", 1, api.CR, "\n", "a\rb", 2}, {"ab", 1, api.LF, "\r\n", "a\r\r\nb", 4}, {"a\nb", 1, api.LF, "\r", "a\r\nb", 2},
	} {
		x := load(t, c.text).native(c.native).marked().at(c.at).does(typing(spell(c.typed)...), api.OK)
		x.sees(c.behind, c.to)
	}
}

// TestOver, P1213.
func TestOver(t *testing.T) {
	for _, c := range []struct {
		text        string
		at, native  int
		count, atom int
		want        api.Errno
		behind      string
		to          int
	}{
		{"abc", 0, api.LF, 1, 'x', api.OK, "xbc", 0}, {"abc", 0, api.LF, 3, 'x', api.OK, "xxx", 2}, {"abc", 0, api.LF, 4, 'x', api.ErrNothing, "abc", 0}, {"abc", 2, api.LF, 2, 'x', api.ErrNothing, "abc", 2},
		{"e\u0301e\u0301x", 1, api.LF, 2, 'y', api.OK, "yyx", 1}, {"ab\ncd", 2, api.LF, 1, 'x', api.OK, "ax\ncd", 1}, {"ab\ncd", 2, api.LF, 2, 'x', api.ErrNothing, "ab\ncd", 2}, {"ab\n", 9, api.LF, 1, 'x', api.OK, "ax\n", 1},
		{"", 0, api.LF, 1, 'x', api.ErrNothing, "", 0}, {"a\n\n", 9, api.LF, 1, 'x', api.ErrNothing, "a\n\n", 9}, {"", 0, api.LF, 1, 10, api.ErrNothing, "", 0}, {"ab", 0, api.LF, 1, 'a', api.OK, "ab", 0},
		{"abc", 1, api.LF, 1, 0x301, api.OK, "a\u0301c", 0}, {"abc", 1, api.LF, 1, 13, api.OK, "a\rc", 0}, {"ab\n", 1, api.LF, 1, 13, api.OK, "a\r\n", 0}, {"abc", 0, api.LF, 2, 13, api.OK, "\r\rc", 1},
		{"abc", 1, api.LF, 1, 10, api.OK, "a\nc", 2}, {"abc", 1, api.LF, 2, 10, api.OK, "a\n", 0}, {"abc", 0, api.CRLF, 3, 10, api.OK, "\r\n", 0}, {"abc", 1, api.CR, 1, 10, api.OK, "a\rc", 2}, {"abc", 1, 0, 1, 10, api.OK, "a\nc", 2},
		{"a\rb\rc", 2, api.LF, 1, 10, api.OK, "a\r\r\n\rc", 4}, {"ab\nc", 1, api.CR, 1, 10, api.OK, "a\r\n\nc", 3}, {"ab\nc", 0, api.CR, 1, 10, api.OK, "\rb\nc", 1}, {"ab\r\nc", 1, api.CR, 1, 10, api.OK, "a\r\r\nc", 2}, {"a\rb\nc", 2, api.CRLF, 1, 10, api.OK, "a\r\r\n\nc", 4},
	} {
		x := load(t, c.text).native(c.native).marked().at(c.at).does(over(c.count, c.atom), c.want)
		x.sees(c.behind, c.to)
	}
	x := load(t, "abc").does(over(2, 'a'), api.OK)
	x.tags(-1, -1, 2)
	y := open(t, api.UTF8, []byte{0xC3, 'x'}, 10).does(over(1, -1-0xA9), api.OK)
	if got := lookAt(y.d).Atoms; !slices.Equal(got, []int{-1 - 0xA9, 'x'}) || !codec.Fits(api.UTF8, got[0]) {
		t.Errorf("%v", got)
	}
}
