package ex_test

import (
	"slices"
	"strings"
	"testing"

	"copyist/api"
	"copyist/ex"
	"copyist/operate"
)

// twin makes a pair of a text.
func twin(t *testing.T, text string, at int) *pair {
	t.Helper()
	return &pair{t, desk(t, text, at), desk(t, text, at)}
}

// TestRunExamples, P1507 to P1516: the chapter's examples on a text.
func TestRunExamples(t *testing.T) {
	for _, c := range []struct {
		line, text string
		at         int
		err        api.Errno
	}{
		{"d", "a\nc\n", 2, api.OK}, {"1,2m$", "c\na\nb\n", 4, api.OK}, {"m0", "b\na\nc\n", 0, api.OK}, {"%s/^/x/", "xa\nxb\nxc\n", 6, api.OK},
		{"g/^/m0", "c\nb\na\n", 0, api.OK}, {"g/[ac]/s//<&>/", "<a>\nb\n<c>\n", 6, api.OK}, {"v/b/d", "b\n", 0, api.OK}, {"1,2j", "a b\nc\n", 1, api.OK}, {"2t0", "b\na\nb\nc\n", 0, api.OK},
		{"0k a", "a\nb\nc\n", 2, api.ErrLine}, {"4d", "a\nb\nc\n", 2, api.ErrLine}, {"2,1d", "a\nb\nc\n", 2, api.ErrLine}, {"'z d", "a\nb\nc\n", 2, api.ErrMark}, {"/q/d", "a\nb\nc\n", 2, api.ErrMatch}, {"d z 0", "a\nb\nc\n", 2, api.ErrTail},
		{"1,2m1", "a\nb\nc\n", 2, api.ErrInto}, {"g/a/g/b/d", "a\nb\nc\n", 2, api.ErrNested}, {"g/a/u", "a\nb\nc\n", 2, api.ErrNested},
	} {
		d := desk(t, "a\nb\nc\n", 2)
		if w := run(t, d, c.line, c.err); w != (api.Wish{}) {
			t.Errorf("%q: %+v", c.line, w)
		}
		sees(t, d, c.text, c.at)
	}
}

// busy is a desk of three lines with a past and a future, marks, watched offsets, registers, a last pattern and a last substitution.
func busy(t *testing.T) *operate.Desk {
	t.Helper()
	d := desk(t, "a\nb\nc\n", 0)
	run(t, d, "s/a/aa/", api.OK)
	run(t, d, "s/aa/a/", api.OK)
	run(t, d, "2>", api.OK)
	run(t, d, "u", api.OK)
	run(t, d, "1y q", api.OK)
	d.Book.SetMark('a', 2)
	d.Book.SetMark('b', 6)
	d.Book.Watch([]int{0, 2, 6})
	d.At = 3 // no place of a cursor
	return d
}

// TestErrorsInOrder, P1507: the error of Parse, an open group, the addresses, lines the wrong way round, what the command says.
func TestErrorsInOrder(t *testing.T) {
	for _, c := range []struct {
		line string
		err  api.Errno
	}{
		{"zz", api.ErrCommand}, {"1,2,3d", api.ErrAddress}, {"2,1d 0", api.ErrTail}, {"'z,9d zz", api.ErrTail}, {strings.Repeat(" ", 1025), api.ErrLong},
		{"'z,9d", api.ErrMark}, {"9,'z d", api.ErrLine}, {"/q/,9d", api.ErrMatch}, {"2,1m'z", api.ErrLine}, {"0m'z", api.ErrLine}, {"0d", api.ErrLine}, {"0,1y", api.ErrLine}, {"0>", api.ErrLine}, {"0<", api.ErrLine}, {"0j", api.ErrLine}, {"0,1s/q/x/", api.ErrLine}, {"0&", api.ErrLine}, {"0g/[/zz", api.ErrLine}, {"0,2v/a/d", api.ErrLine}, {"0t0", api.ErrLine}, {"0,2d 3", api.ErrLine},
		{"2,1pu", api.ErrLine}, {"2,1r x", api.ErrLine}, {"2,1", api.ErrLine}, {"9r x", api.ErrLine}, {"2,1k Z", api.ErrLine},
		{"m'z", api.ErrMark}, {"t/q/", api.ErrMatch}, {"t9", api.ErrLine}, {"m-9", api.ErrLine}, {"1,3m2", api.ErrInto}, {"1,3m1", api.ErrInto}, {"t/[/", api.ErrPattern},
		{"pu z", api.ErrEmpty}, {"pu _", api.ErrEmpty}, {"pu .", api.ErrEmpty}, {"k Z", api.ErrMark}, {"k 1", api.ErrMark}, {"kk", api.OK}, {"set ic nonsense", api.ErrTail}, {"set br=", api.ErrTail},
		{"%s/[/\\q/", api.ErrPattern}, {"%s/q/\\q/", api.ErrMatch}, {"%s/a/\\q/", api.ErrFill}, {"%s/a/\\q/n", api.ErrFill}, {"%s/a/\\xzz/", api.ErrFill}, {"%s/a/\\xc3/", api.OK}, {"%s/a/\\x41/", api.ErrFit},
		{"s/" + strings.Repeat("a", 257) + "/", api.ErrLong}, {"s/\\%(\\%(a\\{99}\\)\\{99}\\)/", api.ErrBig}, {"1s/a/" + strings.Repeat("b", 257), api.ErrLong}, {"/" + strings.Repeat("a", 257), api.ErrLong}, {"g/" + strings.Repeat("a", 257) + "/zz", api.ErrLong},
		{"g/[/zz", api.ErrPattern}, {"g/q/zz", api.ErrCommand}, {"g/q/1,2,3d", api.ErrAddress}, {"g/q/d 0", api.ErrTail}, {"g/q/u", api.ErrNested}, {"g/q/d", api.ErrMatch}, {"v/^/d", api.ErrMatch}, {"g!/^/d", api.ErrMatch}, {"g/a/9d", api.ErrLine}, {"g/b/m'z", api.ErrMark},
		{"1,1j", api.ErrNothing}, {"$j", api.ErrNothing}, {"3,3j! 5", api.ErrNothing},
	} {
		d := busy(t)
		run(t, d, c.line, c.err)
		open := busy(t)
		open.Book.Begin(0)
		want := api.ErrOpen
		if _, _, err := plainParse(spell(c.line)); err != api.OK {
			want = err
		}
		run(t, open, c.line, want)
	}
	d := desk(t, "a\n", 0)
	run(t, d, "u", api.ErrOldest)
	run(t, d, "red", api.ErrNewest)
	run(t, d, "s//x/", api.ErrEmpty)
	run(t, d, "//", api.ErrEmpty)
	run(t, d, "??d", api.ErrEmpty)
	run(t, d, "g//zz", api.ErrEmpty)
	run(t, d, "&", api.ErrEmpty)
	run(t, d, "%d", api.OK)
	run(t, d, "%d", api.ErrNothing)
	run(t, d, "%d a", api.ErrNothing)
	d.Find, d.Sub = spell("["), api.Sub{Pat: spell("\\")}
	run(t, d, "s//x/", api.ErrPattern)
	run(t, d, "//", api.ErrPattern)
	run(t, d, "&", api.ErrPattern)
}

// TestFull, P1507, P1511, P1514: a text that would be too long is refused, and all is as it was; what does not fit goes ahead.
func TestFull(t *testing.T) {
	for _, c := range []struct {
		line string
		need int
	}{
		{"1t.", 3}, {"%t0", 6}, {"pu a", 2}, {"%s/^/x/", 2}, {"%s/$/&\\r/", 2}, {"%>", 2}, {"2m0", 0}, {"1m$", 0}, {"g/^/s/$/xyz/", 6}, {"g/^/t$", 6}, {"g/^/pu a", 4},
	} {
		for room := range 8 {
			d := deskIn(t, api.UTF8, spell("ab\ncd\n"), 0, 6+room)
			d.Bank.Yank('a', api.Reg{Text: spell("q")})
			want := api.OK
			if room < c.need {
				want = api.ErrFull
			}
			run(t, d, c.line, want)
		}
	}
	for _, enc := range encodings {
		d := deskIn(t, enc, spell("ab\ncd\n"), 0, 100)
		want := api.OK
		if enc == api.Latin1 {
			want = api.ErrFit
		}
		run(t, d, "%s/a/\u20ac/", want)
		d.Bank.Yank('a', api.Reg{Text: []int{0x20AC}})
		run(t, d, "pu a", want)
		d.Bank.Yank('a', api.Reg{Text: []int{0x110000}})
		run(t, d, "pu a", api.ErrFit)
		run(t, d, "g/^/pu a", api.ErrFit)
	}
	// as much as a text may have, and a little more
	d := deskIn(t, api.UTF8, spell(strings.Repeat("a", 257)), 0, 65536)
	run(t, d, "s/a/"+strings.Repeat("x", 256)+"/g", api.ErrFull)
	run(t, d, "s/a//", api.OK)
	run(t, d, "s/a/"+strings.Repeat("x", 256)+"/g", api.OK)
	// far more than any text may have: what does not fit is still told first, wherever it stands
	d = deskIn(t, api.Latin1, spell(strings.Repeat("a", 3000)+"\u00ff"), 0, 65536)
	run(t, d, "s/./"+strings.Repeat("&", 255)+"/g", api.ErrFull)
	run(t, d, "s/./\\U"+strings.Repeat("&", 250)+"/g", api.ErrFit)
	run(t, d, "s/.*/"+strings.Repeat("&", 200)+"/g", api.ErrLong)
	run(t, d, "s/.*/"+strings.Repeat("&", 40)+"/", api.ErrFull)
	run(t, d, "s/./"+strings.Repeat("&", 20)+"/g", api.OK)
}

// TestOneGroup, P1507: a line that changes the text is one group, from the clamped cursor ahead of it to the one behind it.
func TestOneGroup(t *testing.T) {
	for _, line := range []string{"d", "%d", "2d a", "pu q", "0pu! q", "1m$", "3m0", "1,2t$", "j", "%j!", ">", "%<", "1,3>>>", "%s/$/x/", "%s/./&&/g", "%&", "g/^/m0", "g/^/s/$/y/", "v/b/d", "g/./t.", "g/a/pu q", "g/^/>", "%s/b/\\r\\r/"} {
		d := busy(t)
		if line == "%&" {
			d.Sub = api.Sub{Pat: spell("c"), Rep: spell("<&>")}
		}
		if strings.HasSuffix(line, "<") {
			run(t, d, "%s/^/\t/", api.OK)
			d.At = 3
		}
		was, cursor := look(d), 2
		if strings.HasSuffix(line, "<") {
			cursor = 3
		}
		run(t, d, line, api.OK)
		is := look(d)
		if is.Undo != was.Undo+1 || is.Redo != 0 || is.Open {
			t.Fatalf("%q: %d groups to undo, %d to do again; there were %d", line, is.Undo, is.Redo, was.Undo)
		}
		run(t, d, "u", api.OK)
		if back := look(d); !slices.Equal(back.Atoms, was.Atoms) || !slices.Equal(back.Tags, was.Tags) || back.At != cursor {
			t.Fatalf("%q, undone: %+v; it was %+v", line, back, was)
		}
		run(t, d, "red", api.OK)
		if on := look(d); !slices.Equal(on.Atoms, is.Atoms) || !slices.Equal(on.Tags, is.Tags) || on.At != is.At {
			t.Fatalf("%q, done again: %+v; it was %+v", line, on, is)
		}
	}
}

// TestNoGroup, P1507, P1512: what changes nothing keeps no group, and what can be done again stays.
func TestNoGroup(t *testing.T) {
	for _, line := range []string{"", "2", "/b/", "y", "%y z", "k c", "set ic", "set", "w", "e! x", "q", "wq", "x", "r y", "/c/r", "f", "%s/^//", "%s/a/b/n", "m.", "2m1", "<", "g/^/", "g/^/y A", "g/a/k z", "g/b/m.", "%s/$//g", "g/^/s/b/x/n"} {
		d := busy(t)
		was := look(d)
		run(t, d, line, api.OK)
		if is := look(d); is.Undo != was.Undo || is.Redo != was.Redo || is.Open || is.Dirty != was.Dirty || !slices.Equal(is.Tags, was.Tags) {
			t.Fatalf("%q: %+v; it was %+v", line, is, was)
		}
	}
}

// TestLastPattern, P1507: where patterns were used, Find is the one that was used last, and the register 47 holds it; else both stay.
func TestLastPattern(t *testing.T) {
	for _, c := range []struct{ line, find string }{
		{"/a/", "a"}, {"?c?", "c"}, {"/a/,/b/y", "b"}, {"//", "b"}, {"/a/,//y", "a"}, {"%s/c/c/", "c"}, {"/a/s/./&/", "."}, {"/a/s//&/", "a"}, {"%s//&/", "b"}, {"%s/c/&/n", "c"}, {"%&", "a"}, {"/c/;", ""}, {"/b/t/c/", "c"}, {"/b/t//", "b"}, {"g/c/", "c"}, {"g//", "b"}, {"/a/,/c/g/b/", "b"}, {"/a/,/c/g//", "c"},
		{"g/c/s/./&/", "."}, {"g/c/s//&/", "c"}, {"g/[bc]/s/c/&/", "c"}, {"g/[ab]/s/b/&/", "b"}, {"g/[ab]/s/a/&/", "a"}, {"g/^/s/q/&/", "^"}, {"g/b/?a?y", "a"}, {"g/b/t/c/", "c"}, {"g/c/&", "c"}, {"g/a/&", "a"}, {"g/$/j", "$"}, {"g/c/?b?,.j!", "b"}, {"g/c/?b?,?b?j", "c"},
		{"/a/r x", "a"}, {"d", ""}, {"y", ""}, {"2", ""}, {"w", ""}, {"u", ""}, {"set ic", ""}, {"k a", ""}, {"r", ""}, {"j", ""},
	} {
		d := desk(t, "a\nb\nc\n", 0)
		run(t, d, "1>", api.OK)
		run(t, d, "1<", api.OK)
		d.Find, d.Sub = spell("b"), api.Sub{Pat: spell("a"), Rep: spell("a")}
		d.Bank.Set('/', spell("old"))
		want, held := c.find, c.find
		if strings.HasSuffix(c.line, ";") {
			run(t, d, c.line, api.ErrCommand)
		} else {
			run(t, d, c.line, api.OK)
		}
		if want == "" {
			want, held = "b", "old"
		}
		if show(d.Find) != want {
			t.Errorf("%q: Find %q; want %q", c.line, show(d.Find), want)
		}
		holds(t, d, '/', api.ByChars, held)
	}
	// at the very end alone: a put still finds what was there
	for _, line := range []string{"/b/pu /", "g/b/pu /", "g/b/s//x/"} {
		d := desk(t, "a\nb\nc\n", 0)
		d.Bank.Set('/', spell("old"))
		run(t, d, line, api.OK)
		if !strings.HasSuffix(line, "x/") {
			sees(t, d, "a\nb\nold\nc\n", 4)
		}
		holds(t, d, '/', api.ByChars, "b")
	}
	d := desk(t, "a\nb\nc\n", 0)
	run(t, d, "/b/pu /", api.ErrEmpty)
	run(t, d, "g/^/pu /", api.ErrEmpty)
	d.Bank.Set('/', spell("x"))
	run(t, d, "g/[ab]/s/^/-/", api.OK)
	run(t, d, "g/^/pu! /", api.OK)
	sees(t, d, "^\n-a\n^\n-b\n^\nc\n", 10)
	holds(t, d, '/', api.ByChars, "^")
}

// TestGoto, P1508.
func TestGoto(t *testing.T) {
	text := "  a\nb\n\n   \n\te"
	for _, c := range []struct {
		line string
		at   int
	}{
		{"", 3}, {" ", 3}, {"1", 2}, {"2", 4}, {"3", 6}, {"4", 9}, {"5", 12}, {"$", 12}, {"0", 2}, {".-2", 2}, {"0,0", 2}, {"1,4", 9}, {"0,2", 4}, {"'a", 9}, {"'b", 12}, {".", 4}, {"/^$/", 6}, {"?^$?", 6},
	} {
		d := desk(t, text, 4)
		if c.line == "" || c.line == " " {
			d.At = 3 // nothing is done, not even that
		}
		d.Book.SetMark('a', 8)
		d.Book.SetMark('b', 13)
		run(t, d, c.line, api.OK)
		sees(t, d, text, c.at)
		if _, redo := d.Book.Depth(); redo != 0 || len(d.Book.Marks()) != 2 {
			t.Errorf("%q", c.line)
		}
	}
	for _, at := range []int{-7, 99, 1 << 62} { // wherever the cursor is said to be
		d := desk(t, text, at)
		run(t, d, "", api.OK)
		sees(t, d, text, at)
		run(t, d, ".", api.OK)
		sees(t, d, text, map[bool]int{true: 2, false: 12}[at < 0])
	}
	d := desk(t, "", 5)
	run(t, d, "1", api.OK)
	sees(t, d, "", 0)
	run(t, d, "2", api.ErrLine)
	run(t, d, "0", api.OK)
}

// TestLinesTaken, P1509: XDelete, XYank, XRight, XLeft with registers, addresses and counts.
func TestLinesTaken(t *testing.T) {
	text := "a\n  b\nc\nd"
	for _, c := range []struct {
		line, text string
		at         int
		reg        int
		held       string
	}{
		{"d", "a\nc\nd", 2, '1', "  b\n"}, {"1d", "  b\nc\nd", 2, '1', "a\n"}, {"$d", "a\n  b\nc", 6, '1', "d\n"}, {"%d", "", 0, '1', "a\n  b\nc\nd\n"}, {"2,3d x", "a\nd", 2, 'x', "  b\nc\n"}, {"d 2", "a\nd", 2, '1', "  b\nc\n"}, {"1,3d 2", "a\n  b", 4, '1', "c\nd\n"}, {"d 99", "a", 0, '1', "  b\nc\nd\n"}, {"1,2d 999999999", "a", 0, '1', "  b\nc\nd\n"}, {"d a1", "a\nc\nd", 2, 'a', "  b\n"},
		{"y", text, 3, '0', "  b\n"}, {"%y", text, 3, '0', text + "\n"}, {"1y z", text, 3, 'z', "a\n"}, {"$y", text, 3, '0', "d\n"}, {"y 2", text, 3, '0', "  b\nc\n"}, {"1,4y 5", text, 3, '0', "d\n"}, {"y\"", text, 3, '0', "  b\n"},
		{">", "a\n\t  b\nc\nd", 5, '/', "-"}, {"1,2>>", "\t\ta\n\t\t  b\nc\nd", 2, '/', "-"}, {"<", "a\nb\nc\nd", 2, '/', "-"}, {"%<<", "a\nb\nc\nd", 0, '/', "-"}, {"4>>>", "a\n  b\nc\n\t\t\td", 11, '/', "-"},
	} {
		d := desk(t, text, 3)
		d.Bank.Set('/', spell("-"))
		run(t, d, c.line, api.OK)
		sees(t, d, c.text, c.at)
		kind := api.ByLines
		if c.reg == '/' {
			kind = api.ByChars
		}
		holds(t, d, c.reg, kind, c.held)
		twin(t, text, 3).does(spell(c.line))
	}
	d := desk(t, "a\nb\n", 0)
	run(t, d, "d _", api.OK)
	run(t, d, "pu", api.ErrEmpty)
	run(t, d, "y Q", api.OK)
	run(t, d, "y Q", api.OK)
	holds(t, d, 'q', api.ByLines, "b\nb\n")
}

// TestJoins, P1509: how many lines are joined.
func TestJoins(t *testing.T) {
	for _, c := range []struct {
		line, text string
		at         int
	}{
		{"j", "a\nb c\nd\ne\n", 3}, {"1j", "a b\nc\nd\ne\n", 1}, {"1,2j", "a b\nc\nd\ne\n", 1}, {"1,3j!", "abc\nd\ne\n", 2}, {"j1", "a\nb c\nd\ne\n", 3}, {"j 2", "a\nb c\nd\ne\n", 3}, {"j 3", "a\nb c d\ne\n", 5}, {"j!99", "a\nbcde\n", 5}, {"1,2j 1", "a\nb c\nd\ne\n", 3}, {"1,2j 3", "a\nb c d\ne\n", 5}, {"2,2j 2", "a\nb c\nd\ne\n", 3}, {"%j", "a b c d e\n", 7}, {"4j 999999999", "a\nb\nc\nd e\n", 7},
	} {
		d := desk(t, "a\nb\nc\nd\ne\n", 2)
		run(t, d, c.line, api.OK)
		sees(t, d, c.text, c.at)
		twin(t, "a\nb\nc\nd\ne\n", 2).does(spell(c.line))
	}
	for _, line := range []string{"5j", "$j 3", "2,2j", "5,5j!", "1,5j 9"} {
		run(t, desk(t, "a\nb\nc\nd\ne\n", 2), line, api.ErrNothing)
	}
	run(t, desk(t, "", 0), "j", api.ErrNothing)
	run(t, desk(t, "a", 0), "j!9", api.ErrNothing)
}

// shapes are texts of a few lines with all kinds of breaks, with and without a last one.
func shapes() []string {
	var all []string
	for _, text := range []string{"", "x", "a\nb", "a\nb\nc", "a\n\nb", "\n\n", " a\n\tb\n c", "a\n\n\n", "ab\n e\u0301\n"} {
		all = append(all, text, strings.ReplaceAll(text, "\n", "\r\n"), strings.ReplaceAll(text, "\n", "\r"), text+"\n")
	}
	return append(all, "a\r\n\rb\nc\r", "\ra\n", "\na\r", "\n\rb\n\r\nc", "a\r\n\n")
}

// TestMovesEverywhere, P1511: lines to each place, with all settings, held against the plain reading.
func TestMovesEverywhere(t *testing.T) {
	for _, text := range shapes() {
		n := strings.Count(strings.ReplaceAll(text, "\r\n", "\n"), "\n") + strings.Count(strings.ReplaceAll(text, "\r\n", ""), "\r") + 1
		for _, native := range []int{api.LF, api.CRLF, api.CR, 0} {
			for a := range n + 1 {
				for b := a; b <= n; b++ {
					for l := range n + 1 {
						for _, name := range []string{"m", "t"} {
							x := twin(t, text, 0)
							x.both(func(d *operate.Desk) {
								d.Set.Native = native
								d.Book.SetMark('a', min(1, d.Book.Text().Len()))
							})
							line := string(rune('0'+a)) + "," + string(rune('0'+b)) + name + string(rune('0'+l))
							x.does(spell(line))
							x.samePast()
						}
					}
				}
			}
		}
	}
}

// TestMoves, P1511: into itself, just beside, and what is new of it.
func TestMoves(t *testing.T) {
	for _, c := range []struct {
		line, text string
		at         int
	}{
		{"2,3m1", "a\n b\nc\nd", 5}, {"2,3m3", "a\n b\nc\nd", 5}, {"m.", "a\n b\nc\nd", 3}, {"m-", "a\n b\nc\nd", 3}, {"1m0", "a\n b\nc\nd", 0}, {"$m$", "a\n b\nc\nd", 7}, {"1m$", " b\nc\nd\na", 7}, {"4m0", "d\na\n b\nc", 0}, {"4m1", "a\nd\n b\nc", 2}, {"2,3m$", "a\nd\n b\nc", 7}, {"1,2m3", "c\na\n b\nd", 5}, {"3,4m0", "c\nd\na\n b", 2}, {"3,4m1", "a\nc\nd\n b", 4},
		{"t.", "a\n b\n b\nc\nd", 6}, {"1,2t$", "a\n b\nc\nd\na\n b", 12}, {"$t0", "d\na\n b\nc\nd", 0}, {"%t.", "a\n b\na\n b\nc\nd\nc\nd", 12}, {"4t3", "a\n b\nc\nd\nd", 7}, {"1,3t2", "a\n b\na\n b\nc\nc\nd", 10},
	} {
		d := desk(t, "a\n b\nc\nd", 3)
		run(t, d, c.line, api.OK)
		sees(t, d, c.text, c.at)
	}
	d := desk(t, "a\nb\nc\n", 0)
	d.Book.SetMark('a', 0)
	run(t, d, "1m2", api.OK)
	if got := look(d); !slices.Equal(got.Tags, []int{2, 3, -1, -1, 4, 5}) || got.Marks[0][1] != 0 {
		t.Errorf("%+v", got)
	}
	for _, line := range []string{"1,2m1", "2,3m2", "1,3m1", "1,3m2", "%m2"} {
		run(t, desk(t, "a\nb\nc\n", 0), line, api.ErrInto)
	}
}

// TestPuts, P1510: registers of both kinds, ahead of the first line, in the middle, behind a last line with and without a break.
func TestPuts(t *testing.T) {
	for _, c := range []struct {
		text, line, want string
		at               int
	}{
		{"a\nb\n", "pu c", "a\nx\nb\n", 2}, {"a\nb\n", "pu! c", "x\na\nb\n", 0}, {"a\nb\n", "0pu c", "x\na\nb\n", 0}, {"a\nb\n", "0pu! c", "x\na\nb\n", 0}, {"a\nb\n", "$pu c", "a\nb\nx\n", 4}, {"a\nb", "$pu c", "a\nb\nx", 4}, {"a\nb", "$pu! c", "a\nx\nb", 2},
		{"a\nb\n", "pu l", "a\ny\n z\nb\n", 5}, {"a\nb", "2pu l", "a\nb\ny\n z", 7}, {"", "pu l", "\ny\n z", 4}, {"", "0pu l", "y\n z\n", 3}, {"", "pu c", "\nx", 1}, {"a\r\nb", "2pu c", "a\r\nb\r\nx", 6}, {"a\nb\n", "1,2pu c", "a\nb\nx\n", 4}, {"a", "pu e", "a\n", 0}, {"a\n", "pu e", "a\n\n", 2}, {"", "pu e", "\n", 0}, {"a\nb\n", "pu m", "a\np\r\nb\n", 2}, {"a", "pu m", "a\np", 2},
	} {
		d := desk(t, c.text, 0)
		d.Bank.Yank('c', api.Reg{Text: spell("x")})
		d.Bank.Yank('l', api.Reg{Kind: api.ByLines, Text: spell("y\n z\n")})
		d.Bank.Yank('e', api.Reg{Kind: api.ByLines})
		d.Bank.Yank('m', api.Reg{Text: spell("p\r")})
		run(t, d, c.line, api.OK)
		sees(t, d, c.want, c.at)
	}
	for _, text := range shapes() { // with all texts, at all lines
		for _, native := range natives {
			for _, put := range []api.Reg{{Text: spell("q")}, {Text: spell("\n")}, {Text: spell("q\r")}, {Text: spell("\nq")}, {Kind: api.ByLines, Text: spell("\n")}, {Kind: api.ByLines, Text: spell("\r\n")}, {Kind: api.ByLines, Text: spell("\n q\r")}, {Kind: api.ByLines, Text: spell("q\n\n")}} {
				for _, line := range []string{"0pu a", "1pu a", "1pu! a", "$pu a", "$pu! a", "2pu a", "2pu! A"} {
					x := twin(t, text, 0)
					x.both(func(d *operate.Desk) {
						d.Set.Native = native
						d.Bank.Yank('a', put)
					})
					x.does(spell(line))
				}
			}
		}
	}
}

// TestMarks, P1512: marks are set at a line's beginning; undo and redo lead to their cursors.
func TestMarks(t *testing.T) {
	d := desk(t, "a\n bc\nd\n", 4)
	run(t, d, "k a", api.OK)
	run(t, d, "1,3kb", api.OK)
	run(t, d, "mark '", api.OK)
	run(t, d, "1k<", api.OK)
	if got := look(d); !slices.Equal(got.Marks, [][2]int{{39, 2}, {60, 0}, {97, 2}, {98, 6}}) || got.At != 4 {
		t.Errorf("%+v", got)
	}
	run(t, d, "3s/d/xyz/", api.OK)
	run(t, d, "1d", api.OK)
	d.At = 99
	run(t, d, "undo", api.OK)
	sees(t, d, "a\n bc\nxyz\n", 6)
	run(t, d, "u", api.OK)
	sees(t, d, "a\n bc\nd\n", 4)
	run(t, d, "u", api.ErrOldest)
	run(t, d, "redo", api.OK)
	sees(t, d, "a\n bc\nxyz\n", 6)
	run(t, d, "red", api.OK)
	sees(t, d, " bc\nxyz\n", 1)
	run(t, d, "red", api.ErrNewest)
}

// TestSet, P1513: every word, one behind the other; one that is none, and nothing is turned.
func TestSet(t *testing.T) {
	for _, c := range []struct {
		line string
		want api.Settings
	}{
		{"set", api.Settings{Native: api.LF}}, {"set ic", api.Settings{IgnoreCase: true, Native: api.LF}}, {"se ignorecase", api.Settings{IgnoreCase: true, Native: api.LF}}, {"set ic noic", api.Settings{Native: api.LF}}, {"set ic\tnoignorecase  ic ", api.Settings{IgnoreCase: true, Native: api.LF}},
		{"set nows", api.Settings{NoWrap: true, Native: api.LF}}, {"set nowrapscan", api.Settings{NoWrap: true, Native: api.LF}}, {"set nows ws", api.Settings{Native: api.LF}}, {"set nows wrapscan", api.Settings{Native: api.LF}}, {"set br=cr", api.Settings{Native: api.CR}}, {"set br=crlf", api.Settings{Native: api.CRLF}}, {"set br=cr br=lf", api.Settings{Native: api.LF}}, {"set br=cr ic nows", api.Settings{IgnoreCase: true, NoWrap: true, Native: api.CR}},
	} {
		d := desk(t, "a", 7)
		run(t, d, c.line, api.OK)
		if d.Set != c.want || d.At != 7 {
			t.Errorf("%q: %+v; want %+v", c.line, d.Set, c.want)
		}
	}
	for _, line := range []string{"set x", "set ic x", "set icc", "set IC", "set ic,ws", "set br=", "set br=CR", "set br", "set br = cr", "set !", "set noic=", "set \u00ef\u00a3"} {
		run(t, desk(t, "a", 0), line, api.ErrTail)
	}
	for _, atom := range []int{-1, 'c' + 1<<32, 'c' + 256, 'c' - 1<<32, 0} {
		runAtoms(t, desk(t, "a", 0), append(spell("set i"), atom), api.ErrTail)
	}
	d := desk(t, "Ab\naB\n", 0)
	run(t, d, "set ic nows", api.OK)
	run(t, d, "/ab/", api.OK)
	sees(t, d, "Ab\naB\n", 3)
	run(t, d, "/ab/", api.ErrMatch)
	run(t, d, "%s/B/\\r/g", api.OK)
	sees(t, d, "A\n\na\n\n", 3)
	run(t, d, "set br=crlf ws", api.OK)
	run(t, d, "/A/s//&\\n/", api.OK)
	sees(t, d, "A\r\n\n\na\n\n", 0)
	run(t, d, "$t.", api.OK)
}

// TestWishes, P1516: each wish, and that nothing is changed but what was sought.
func TestWishes(t *testing.T) {
	for _, c := range []struct {
		line string
		want api.Wish
	}{
		{"w", api.Wish{Verb: api.XWrite}}, {"write! a.b", api.Wish{Verb: api.XWrite, Force: true, Name: "a.b"}}, {"e", api.Wish{Verb: api.XEdit}}, {"edit x", api.Wish{Verb: api.XEdit, Name: "x"}}, {"e!", api.Wish{Verb: api.XEdit, Force: true}}, {"q", api.Wish{Verb: api.XQuit}}, {"quit!", api.Wish{Verb: api.XQuit, Force: true}}, {"wq", api.Wish{Verb: api.XWriteQuit}}, {"wq! ~!", api.Wish{Verb: api.XWriteQuit, Force: true, Name: "~!"}}, {"x", api.Wish{Verb: api.XExit}}, {"exit! y", api.Wish{Verb: api.XExit, Force: true, Name: "y"}}, {"f", api.Wish{Verb: api.XFile}}, {"file z", api.Wish{Verb: api.XFile, Name: "z"}},
		{"r", api.Wish{Verb: api.XRead, Line: 2}}, {"r x", api.Wish{Verb: api.XRead, Line: 2, Name: "x"}}, {"0r y", api.Wish{Verb: api.XRead, Name: "y"}}, {"$r", api.Wish{Verb: api.XRead, Line: 3}}, {"0,3r", api.Wish{Verb: api.XRead, Line: 3}}, {"/c/read", api.Wish{Verb: api.XRead, Line: 3}}, {"-2r!", api.Wish{Verb: api.XRead, Name: "!"}},
	} {
		d := busy(t)
		was := look(d)
		if w := run(t, d, c.line, api.OK); w != c.want {
			t.Errorf("%q: %+v; want %+v", c.line, w, c.want)
		}
		if strings.HasPrefix(c.line, "/") {
			was.Find, was.Regs['/'] = spell("c"), api.Reg{Text: spell("c")}
		}
		if is := look(d); !is.equal(was) {
			t.Errorf("%q: %+v; it was %+v", c.line, is, was)
		}
	}
	run(t, busy(t), "4r x", api.ErrLine)
	run(t, busy(t), "2,1r x", api.ErrLine)
	if w, err := ex.Run(desk(t, "", 0), spell("r x")); err != api.OK || w.Line != 1 {
		t.Errorf("%+v, %d", w, err)
	}
}
