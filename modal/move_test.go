package modal_test

import (
	"strings"
	"testing"

	"copyist/api"
	"copyist/operate"
)

// row is keys and where they lead, or the error of the last one.
type row struct {
	keys string
	at   int
	err  api.Errno
}

// tries gives each row's keys to a new machine, in the mode Normal, and (where they are no commands but motions) in both selections.
func tries(t *testing.T, s setup, text string, rows []row) {
	t.Helper()
	for _, r := range rows {
		for _, mode := range []string{"", "v", "V"} {
			x := s.load(t, []byte(text))
			x.both(func(d *operate.Desk) {
				d.Book.SetMark('a', 4)
				d.Book.SetMark('b', 99)
				d.Book.SetMark('z', len(spell(text)))
			})
			x.does(mode)
			if r.err != api.OK {
				x.fails(r.keys, r.err)
				continue
			}
			x.does(r.keys).at(r.at)
			if anchor := x.m.See().Anchor; mode != "" && anchor != 0 || mode == "" && anchor != -1 {
				t.Fatalf("%q: the anchor is %d", r.keys, anchor)
			}
		}
	}
}

const prose = "ab, cd\n\n  x(y[z)\r\ne\u0301f"

// TestMotionsInALine, P1805, 1: with and without a count, where they land and where they can't.
func TestMotionsInALine(t *testing.T) {
	tries(t, usual, prose, []row{
		{"l", 1, 0}, {" ", 1, 0}, {"3l", 3, 0}, {"99l", 5, 0}, {"$l", 0, api.ErrMove}, {"h", 0, api.ErrMove}, {"⌫", 0, api.ErrMove}, {"$h", 4, 0}, {"$⌫", 4, 0}, {"$3h", 2, 0}, {"$99h", 0, 0},
		{"$0", 0, 0}, {"$^", 0, 0}, {"jj$^", 10, 0}, {"$", 5, 0}, {"2$", 7, 0}, {"3$", 15, 0}, {"99$", 20, 0}, {"|", 0, 0}, {"4|", 3, 0}, {"99|", 5, 0},
		{"fd", 5, 0}, {"tc", 3, 0}, {"fz", 0, api.ErrMove}, {"2fd", 0, api.ErrMove}, {"tb", 0, 0}, {"$Fb", 1, 0}, {"$Tb", 2, 0}, {"$F(", 5, api.ErrMove}, {"fa", 0, api.ErrMove}, {"f␛", 0, 0},
		{"j^", 7, 0}, {"jl", 7, api.ErrMove}, {"j$", 7, 0}, {"Gl", 20, 0}, {"Gfe", 0, api.ErrMove}, {"G$Fe", 18, 0},
	})
	tries(t, usual, "aXbXcXd", []row{
		{"fX", 1, 0}, {"2fX", 3, 0}, {"4fX", 0, api.ErrMove}, {"tX", 0, 0}, {"2tX", 2, 0}, {"$FX", 5, 0}, {"$2TX", 4, 0},
	})
}

// TestMotionsToLines, P1805, 2: rows, words, paragraphs, brackets.
func TestMotionsToLines(t *testing.T) {
	tries(t, usual, prose, []row{
		{"j", 7, 0}, {"4|2j", 11, 0}, {"99j", 18, 0}, {"Gj", 0, api.ErrMove}, {"k", 0, api.ErrMove}, {"G$k", 15, 0}, {"Glk", 9, 0}, {"G2k", 7, 0}, {"G99k", 0, 0},
		{"+", 7, 0}, {"2⏎", 10, 0}, {"99+", 18, 0}, {"G+", 0, api.ErrMove}, {"-", 0, api.ErrMove}, {"G-", 10, 0}, {"G3-", 0, 0}, {"$_", 0, 0}, {"3_", 10, 0}, {"99_", 18, 0},
		{"G", 18, 0}, {"3G", 10, 0}, {"99G", 18, 0}, {"Ggg", 0, 0}, {"3gg", 10, 0}, {"99gg", 18, 0}, {"50%", 7, 0}, {"1%", 0, 0}, {"100%", 18, 0}, {"101%", 0, api.ErrMove},
		{"w", 2, 0}, {"3w", 7, 0}, {"W", 4, 0}, {"99w", 20, 0}, {"G$w", 0, api.ErrMove}, {"Gb", 15, 0}, {"2b", 0, api.ErrMove}, {"G99b", 0, 0}, {"GB", 10, 0}, {"e", 1, 0}, {"2e", 2, 0}, {"E", 2, 0}, {"G$e", 0, api.ErrMove}, {"Gge", 15, 0}, {"G2ge", 14, 0}, {"GgE", 15, 0}, {"ge", 0, api.ErrMove}, {"gE", 0, api.ErrMove},
		{"}", 7, 0}, {"2}", 20, 0}, {"G$}", 0, api.ErrMove}, {"G{", 7, 0}, {"G2{", 0, 0}, {"{", 0, api.ErrMove}, {"3G%", 15, 0}, {"3G$%", 11, 0}, {"%", 0, api.ErrMove}, {"G%", 0, api.ErrMove},
	})
	tries(t, usual, "", []row{{"j", 0, api.ErrMove}, {"G", 0, 0}, {"w", 0, api.ErrMove}, {"$", 0, 0}, {"0", 0, 0}, {"^", 0, 0}, {"_", 0, 0}, {"5G", 0, 0}, {"}", 0, api.ErrMove}, {"l", 0, api.ErrMove}, {"100%", 0, 0}})
}

// TestFindAgain, P1805, 3: the last find, in its own way and in the other; one that lands is kept, and no other.
func TestFindAgain(t *testing.T) {
	tries(t, usual, "aXbXcXdXe", []row{
		{";", 0, api.ErrMove}, {",", 0, api.ErrMove}, {"fX;", 3, 0}, {"fX2;", 5, 0}, {"fX9;", 0, api.ErrMove}, {"fX;,", 1, 0}, {"fX,", 0, api.ErrMove}, {"fX;2,", 3, api.ErrMove},
		{"$FX;", 5, 0}, {"$FX;,", 7, 0}, {"$FX,", 7, api.ErrMove}, {"tX;", 0, 0}, {"tXl;", 2, 0}, {"tX3l,", 2, 0}, {"$TX;", 8, 0}, {"$TXhh;", 6, 0}, {"$TX3h,", 6, 0}, {"$TX2;", 6, 0},
		{"fX;,;", 3, 0}, {"fX;;,,", 1, 0}, {"fX$,", 7, 0}, {"tX$,", 8, 0}, {"$TX0,", 0, 0}, {"$TX02,", 2, 0},
	})
	// a find that does not land is not kept; one behind an operator that reaches is
	load(t, "aXbXc").does("fX").fails("fq", api.ErrMove).does(";").at(3)
	load(t, "aXbXc").fails("fq", api.ErrMove).refuses(';', api.ErrMove)
	load(t, "aXbXcXd").does("dfX").sees("bXcXd", 0).does(";").at(1)
	load(t, "aXbXcXd").fails("dfq", api.ErrMove).refuses(';', api.ErrMove)
	load(t, "aXbXcXd").answers("\"!dtX", api.ErrReg).does("l;").at(2)
	load(t, "aXbXcXd").does("fXl;").at(3).does("dtc").sees("aXbcXd", 3).refuses(';', api.ErrMove)
	// ; and , keep the last find as it was, behind an operator too
	load(t, "aXbXcXdXe").does("fX;,;").at(3).does("d;").sees("aXbdXe", 3).does(";").at(4).does(",").refuses(',', api.ErrMove)
	load(t, "aXbXcXdXe").does("$FX").at(7).fails("d,", api.ErrMove).does(";d,").sees("aXbXce", 5).refuses(',', api.ErrMove).does(";").at(3)
}

// TestSearchAgain, P1805, 4: n and N, with counts, round the text or not, whatever the case.
func TestSearchAgain(t *testing.T) {
	text := "o a\nO o\na o"
	tries(t, usual, text, []row{
		{"n", 0, api.ErrEmpty}, {"N", 0, api.ErrEmpty}, {"/o⏎", 6, 0}, {"/o⏎n", 10, 0}, {"/o⏎nn", 0, 0}, {"/o⏎N", 0, 0}, {"/o⏎NN", 10, 0}, {"/o⏎2n", 0, 0}, {"/o⏎3n", 6, 0}, {"/o⏎4n", 10, 0}, {"/o⏎9999n", 6, 0}, {"/o⏎9998N", 10, 0},
		{"?o⏎", 10, 0}, {"?o⏎n", 6, 0}, {"?o⏎N", 0, 0}, {"?o⏎2n", 0, 0}, {"?o⏎2N", 6, 0}, {"?o⏎9999n", 10, 0},
		{"/$⏎", 2, 0}, {"/$⏎n", 2, 0}, {"/$⏎2n", 6, 0}, {"/$⏎3n", 10, 0}, {"/x*⏎", 1, 0}, {"/x*⏎4n", 5, 0}, {"?x*⏎", 10, 0}, {"?^⏎3n", 8, 0},
	})
	for _, set := range []func(d *operate.Desk){
		func(d *operate.Desk) { d.Set.NoWrap = true },
		func(d *operate.Desk) { d.Set.IgnoreCase = true },
		func(d *operate.Desk) { d.Set.NoWrap, d.Set.IgnoreCase = true, true },
	} {
		for _, keys := range []string{"/o⏎", "/o⏎nnnnn", "/o⏎2n", "/o⏎9999n", "G$?o⏎nnn", "G$?o⏎3N", "?o⏎", "/o⏎NNN", "/O⏎n9n", "*n", "#N"} {
			x := load(t, text)
			x.both(set)
			x.keys(keys)
		}
	}
	x := load(t, text)
	x.both(func(d *operate.Desk) { d.Set.NoWrap = true })
	x.does("/o⏎n").at(10).refuses('n', api.ErrMatch).fails("3N", api.ErrMatch).does("N").at(6)
	x.both(func(d *operate.Desk) { d.Set.IgnoreCase = true })
	x.does("N").at(4)
	x.both(func(d *operate.Desk) { d.Find = spell("[") })
	x.refuses('n', api.ErrPattern).refuses('N', api.ErrPattern)
	x.both(func(d *operate.Desk) { d.Find = spell("zz") })
	x.refuses('n', api.ErrMatch)
	x.both(func(d *operate.Desk) { d.Find = nil })
	x.refuses('n', api.ErrEmpty)
}

// TestStar, P1805, 5: the word at the cursor or the next one of its line; it is the last search from then on.
func TestStar(t *testing.T) {
	text := "foo bar, foo\nfoobar foo  bar\n--"
	tries(t, usual, text, []row{
		{"*", 9, 0}, {"2*", 20, 0}, {"3*", 0, 0}, {"#", 20, 0}, {"2#", 9, 0}, {"ll*", 9, 0}, {"ll#", 0, 0}, {"lll*", 4, 0}, {"lll#", 25, 0}, {"8|*", 9, 0}, {"9|*", 9, 0}, {"G*", 0, api.ErrObject}, {"j*", 13, 0}, {"j#", 13, 0}, {"j10l*", 25, 0}, {"*n", 20, 0}, {"*N", 0, 0}, {"#n", 9, 0}, {"#N", 0, 0}, {"?o⏎*", 0, 0}, {"*#", 0, 0},
	})
	x := load(t, text).does("*").holds('/', api.ByChars, `\<foo\>`)
	if show(x.m.Desk().Find) != `\<foo\>` {
		t.Errorf("%q", show(x.m.Desk().Find))
	}
	// what it seeks stays, whatever comes of it; but not where it can't be compiled
	x = load(t, "foo bar")
	x.both(func(d *operate.Desk) { d.Set.NoWrap = true })
	x.answers("*", api.ErrMatch).at(0).holds('/', api.ByChars, `\<foo\>`).refuses('n', api.ErrMatch)
	x.answers("d#", api.ErrMatch).refuses('n', api.ErrMatch)
	x = load(t, "foo bar foo").does("$?a⏎n").at(5)
	x.does("*").holds('/', api.ByChars, `\<bar\>`)
	long := strings.Repeat("x", 253)
	x = usual.load(t, []byte("a "+long+" "+long)).does("/a⏎l")
	x.refuses('*', api.ErrLong).holds('/', api.ByChars, "a").does("n").at(0)
	fits := strings.Repeat("x", 252)
	load(t, fits+" "+fits).does("*").at(253)
	load(t, "").refuses('*', api.ErrObject).refuses('#', api.ErrObject).fails("d*", api.ErrObject)
	load(t, "a\u0301b c \u00e9 a\u0301b").does("*").at(8).holds('/', api.ByChars, "\\<a\u0301b\\>").does("h#").at(0)
}

// TestMarkMotions, P1805, 6.
func TestMarkMotions(t *testing.T) {
	text := "  ab\n  cd\n\tx\n"
	x := load(t, text).does("jlma3ljmb")
	x.does("gg`a").at(6).does("'a").at(7).does("`b").at(11).does("'b").at(11).fails("`c", api.ErrMark).fails("'c", api.ErrMark).fails("`A", api.ErrMark).fails("'!", api.ErrMark)
	// a mark within a cluster, in a break, in the tail is clamped
	x = load(t, "ae\u0301\r\nb\n")
	x.both(func(d *operate.Desk) {
		d.Book.SetMark('a', 2)
		d.Book.SetMark('b', 4)
		d.Book.SetMark('c', 7)
		d.Book.SetMark('d', 3)
	})
	x.does("`a").at(1).does("`b").at(1).does("`c").at(5).does("`d").at(1).does("'c").at(5).does("'b").at(0)
	x.does("d`c").sees("\r\nb\n", 0)
}

// TestWindowMotions, P1805, 7: with counts within the window and beyond it, in windows that are full and that are not.
func TestWindowMotions(t *testing.T) {
	text := ""
	for range 9 {
		text += " x\n"
	}
	tries(t, usual.high(4), text, []row{
		{"H", 1, 0}, {"L", 10, 0}, {"M", 4, 0}, {"2H", 4, 0}, {"4H", 10, 0}, {"99H", 10, 0}, {"2L", 7, 0}, {"4L", 1, 0}, {"99L", 1, 0}, {"99M", 4, 0}, {"GH", 16, 0}, {"GM", 19, 0}, {"GL", 25, 0}, {"G99L", 16, 0}, {"G99H", 25, 0}, {"5G2H", 7, 0},
	})
	tries(t, usual.high(5), text, []row{{"M", 7, 0}, {"GM", 19, 0}})
	tries(t, usual.high(1), text, []row{{"H", 1, 0}, {"3L", 1, 0}, {"M", 1, 0}, {"4GM", 10, 0}, {"4G9H", 10, 0}})
	tries(t, usual.high(200), text, []row{{"H", 1, 0}, {"L", 25, 0}, {"M", 13, 0}, {"99L", 1, 0}, {"9H", 25, 0}})
	tries(t, usual.high(3), "", []row{{"H", 0, 0}, {"M", 0, 0}, {"L", 0, 0}})
	// a window that is not full any more
	x := usual.high(4).load(t, []byte(text)).does("Gzt")
	if x.m.See().Top != 5 {
		t.Fatalf("Top %d", x.m.See().Top)
	}
	x.does("8G2dd").does("H").at(16).does("L").at(19).does("M").at(16)
}

// TestJumps, P1805: each sets the mark 39 to where the cursor was; no other motion does, and none that fails or that an operator has.
func TestJumps(t *testing.T) {
	text := "a (b) a\n\nc a\n\nd\n"
	for _, keys := range []string{"G", "3G", "gg", "50%", "}", "{", "%", "/a⏎", "?a⏎", "n", "N", "*", "#", "`m", "'m", "`'", "``", "''", "'`", "H", "M", "L", "2H", "3}"} {
		for _, mode := range []string{"", "v", "V"} {
			x := load(t, text)
			x.both(func(d *operate.Desk) {
				d.Find = spell("a")
				d.Book.SetMark('m', 9)
				d.Book.SetMark(39, 15)
				d.At = 2
			})
			x.does(mode+keys).marked(39, 2).does("``").at(2)
		}
	}
	for _, keys := range []string{"l", "h", "0", "^", "$", "3|", "fb", "Fa", "tb", "j", "+", "_", "w", "b", "e", "W", "E", "B", "fb;", "d}", "dG", "y`m", "d/b⏎", "yn", "yL", "y*", "x", "p", "ix␛", "o␛", "␅", "zt", "ma", "v␛", ":3⏎", "u"} {
		x := load(t, text)
		x.both(func(d *operate.Desk) {
			d.Find = spell("a")
			d.Book.SetMark('m', 1)
			d.Book.SetMark(39, 0)
			d.Bank.Yank(0, api.Reg{Text: spell("z")})
			d.At = 2
		})
		x.keys(keys).marked(39, 0)
	}
	for _, c := range []row{{"101%", 0, api.ErrMove}, {"`z", 0, api.ErrMark}, {"n", 0, api.ErrEmpty}, {"/zz⏎", 0, api.ErrMatch}, {"{", 0, api.ErrMove}, {"''", 0, api.ErrMark}} {
		x := load(t, text).answers(c.keys, c.err)
		if len(x.state().Marks) > 0 {
			t.Errorf("%q: %v", c.keys, x.state().Marks)
		}
	}
	// a mark by either name
	load(t, text).does("lm`G").marked(39, 1).does("3G$m'gg``").at(11)
	load(t, text).does("lm`").marked(39, 1).does("$`'").at(1).does("''").at(0)
}
