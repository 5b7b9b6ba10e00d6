package modal_test

import (
	"testing"

	"copyist/api"
	"copyist/operate"
)

// TestSelectionBeginsAndEnds, P1813: by each of its commands and by an escape.
func TestSelectionBeginsAndEnds(t *testing.T) {
	x := load(t, "abc\ndef\n").does("lv").mode(api.Visual).does("lV").mode(api.VisualLine).does("jv").mode(api.Visual).seen(api.Sight{Mode: api.Visual, Anchor: 1, At: 6, Percent: 100, Cell: 2})
	x.does("v").mode(api.Normal).at(6).marked('<', 1).marked('>', 6)
	x.does("Vk").mode(api.VisualLine).does("V").mode(api.Normal).at(2).marked('<', 2).marked('>', 6)
	x.does("v␛").marked('<', 2).marked('>', 2).does("V0␛").marked('<', 0).marked('>', 2)
	// exchanging the ends
	x = load(t, "abc\ndef\n").does("lvjo").seen(api.Sight{Mode: api.Visual, Anchor: 5, At: 1, Percent: 50, Cell: 1}).does("o").seen(api.Sight{Mode: api.Visual, Anchor: 1, At: 5, Percent: 100, Cell: 1})
	x.does("Vol").seen(api.Sight{Mode: api.VisualLine, Anchor: 5, At: 2, Percent: 50, Cell: 2})
}

// TestSelectedSpan, P1813: from either end, by characters and by lines.
func TestSelectedSpan(t *testing.T) {
	text := "abc de\u0301\n\nfg\nh"
	doesRows(t, usual, text, []deedRow{
		{"vd", "bc de\u0301\n\nfg\nh", 0}, {"lvld", "a de\u0301\n\nfg\nh", 1}, {"llvhd", "a de\u0301\n\nfg\nh", 1}, {"$vd", "abc d\n\nfg\nh", 4}, {"v$d", "\n\nfg\nh", 0}, {"wvjd", "abc \nfg\nh", 3}, {"wv2jd", "abc \nh", 3}, {"wv2jkd", "abc \nfg\nh", 3}, {"Gvggd", "", 0}, {"Vd", "\nfg\nh", 0}, {"lVjd", "fg\nh", 0}, {"GVd", "abc de\u0301\n\nfg", 9}, {"GVkd", "abc de\u0301\n\n", 8}, {"jVd", "abc de\u0301\nfg\nh", 8}, {"VGd", "", 0},
		{"lvlx", "a de\u0301\n\nfg\nh", 1}, {"lvlcZ␛", "aZ de\u0301\n\nfg\nh", 1}, {"lvlsZ␛", "aZ de\u0301\n\nfg\nh", 1}, {"VcZ␛", "Z\n\nfg\nh", 0}, {"llVjsZ␛", "Z\nfg\nh", 0}, {"llvhy", text, 1}, {"lljVky", text, 2}, {"lvlU", "aBC de\u0301\n\nfg\nh", 1}, {"lvlgU", "aBC de\u0301\n\nfg\nh", 1}, {"VU", "ABC DE\u0301\n\nfg\nh", 0}, {"VGU", "ABC DE\u0301\n\nFG\nH", 0}, {"VUVu", text, 0}, {"VUVgu", text, 0}, {"lv~", "aBc de\u0301\n\nfg\nh", 1}, {"lvlg~", "aBC de\u0301\n\nfg\nh", 1},
		{"lv>", "\tabc de\u0301\n\nfg\nh", 1}, {"Vjj3>", "\t\t\tabc de\u0301\n\n\t\t\tfg\nh", 3}, {"Vjj3>Vjj2<", "\tabc de\u0301\n\n\tfg\nh", 1}, {"Vjj3>Vjj<", "\t\tabc de\u0301\n\n\t\tfg\nh", 2}, {"lvjj>", "\tabc de\u0301\n\n\tfg\nh", 1},
	})
	load(t, text).does("lvl\"ad").holds('a', api.ByChars, "bc").does("V\"Ay").holds('a', api.ByLines, "bc\na de\u0301\n")
	load(t, text).does("llvhy").holds('0', api.ByChars, "bc").marked('<', 1).marked('>', 2).does("jVky").holds('0', api.ByLines, "abc de\u0301\n\n")
}

// TestSelectionCommandsFail, P1813: the selection has ended, and the cursor is at its lesser end, whatever the error.
func TestSelectionCommandsFail(t *testing.T) {
	for _, c := range []struct {
		keys string
		err  api.Errno
	}{
		{"\"!d", api.ErrReg}, {"\":x", api.ErrRead}, {"\"!y", api.ErrReg}, {"\"!c", api.ErrReg}, {"\".s", api.ErrRead}, {"r\x01", api.ErrKey}, {"r⏎", api.ErrKey}, {"r␊", api.ErrKey}, {"r\x7f", api.ErrKey}, {"p", api.ErrEmpty}, {"\"!P", api.ErrReg}, {"\"_p", api.ErrEmpty}, {"9>", api.ErrFull}, {"ré", api.ErrFull},
	} {
		for _, sel := range []string{"v", "V"} {
			x := usual.limited(9).load(t, []byte("abcd\nefg")).does("lll"+sel+"hh").answers(c.keys, c.err)
			x.mode(api.Normal).sees("abcd\nefg", 1).marked('<', 1).marked('>', 3).refuses('u', api.ErrOldest).does("gv").seen(api.Sight{Mode: map[string]int{"v": api.Visual, "V": api.VisualLine}[sel], Anchor: 3, At: 1, Percent: 50, Cell: 1})
			x.does("␛").refuses('.', api.ErrNothing)
		}
	}
	for _, keys := range []string{"d", "y", "U", "u", "~", "rx"} {
		load(t, "a\n\nb").does("jv").answers(keys, api.ErrNothing).mode(api.Normal).at(2)
	}
	load(t, "a\n\nb").does("jv>").mode(api.Normal).sees("a\n\nb", 2)
	load(t, "a\n\nb").does("jvcx␛").sees("a\nx\nb", 2)
	load(t, "").does("V").answers("d", api.ErrNothing).does("v").answers("y", api.ErrNothing).does("Vy").holds('0', api.ByLines, "\n").does("V").answers("rx", api.ErrNothing).does("V").answers("J", api.ErrNothing)
	for _, sel := range []string{"v", "V"} {
		load(t, "ab\ncd").does("jl"+sel).answers("J", api.ErrNothing).mode(api.Normal).at(4).does(sel+"h").answers("gJ", api.ErrNothing).at(3)
	}
	// what is not spelled there leaves the selection
	load(t, "ab").does("vl").refuses('D', api.ErrKey).refuses('.', api.ErrKey).refuses('i'+1000, api.ErrKey).mode(api.Visual).fails("ix", api.ErrKey).mode(api.Visual)
}

// TestReselect, P1813.
func TestReselect(t *testing.T) {
	x := load(t, "abc\ndef\nghi\n").fails("gv", api.ErrNothing)
	x.does("lvj␛").at(5).does("gggv").seen(api.Sight{Mode: api.Visual, Anchor: 1, At: 5, Percent: 66, Cell: 1}).does("o␛Ggv").seen(api.Sight{Mode: api.Visual, Anchor: 5, At: 1, Percent: 33, Cell: 1})
	x.does("V␛Ggv").seen(api.Sight{Mode: api.VisualLine, Anchor: 5, At: 1, Percent: 33, Cell: 1})
	x.fails("gv", api.ErrKey).mode(api.VisualLine).does("y").mode(api.Normal)
	// the marks may have been set otherwise since
	x.does("ggm>Gm<gv").seen(api.Sight{Mode: api.VisualLine, Anchor: 0, At: 8, Percent: 100}).does("␛").marked('<', 0).marked('>', 8)
	// and go with the text; clamped
	load(t, "abc\ndef\n").does("jvll␛ggdd").sees("def\n", 0).does("gv").seen(api.Sight{Mode: api.Visual, Anchor: 0, At: 2, Percent: 100, Cell: 2, Dirty: true})
	x = load(t, "abc\ndef\n").does("jlvl␛dd").sees("abc\n", 0).does("gv").seen(api.Sight{Mode: api.Visual, Anchor: 2, At: 2, Percent: 100, Cell: 2, Dirty: true}).does("␛")
	x.both(func(d *operate.Desk) {
		d.Book.SetMark('<', 1)
		d.Book.SetMark('>', 4)
	})
	x.does("gv").seen(api.Sight{Mode: api.Visual, Anchor: 1, At: 2, Percent: 100, Cell: 2, Dirty: true})
	// behind a command, behind VCommand
	load(t, "abcd").does("lvld").sees("ad", 1).does("ugv").seen(api.Sight{Mode: api.Visual, Anchor: 3, At: 3, Percent: 100, Cell: 3})
	load(t, "abcd").does("lvl:␛gv").seen(api.Sight{Mode: api.Visual, Anchor: 1, At: 2, Percent: 100, Cell: 2})
}

// TestJoinSelected, P1813: the lines of both ends, an empty one too; of one line: with the next.
func TestJoinSelected(t *testing.T) {
	doesRows(t, usual, "a\nb\n\nc\n", []deedRow{
		{"vJ", "a b\n\nc\n", 1}, {"VJ", "a b\n\nc\n", 1}, {"vjJ", "a b\n\nc\n", 1}, {"jvkJ", "a b\n\nc\n", 1}, {"vjjJ", "a b\nc\n", 2}, {"Vjjj9J", "a b c\n", 3}, {"vgJ", "ab\n\nc\n", 1}, {"VGgJ", "abc\n", 2}, {"jVkgJ", "ab\n\nc\n", 1}, {"jjvJ", "a\nb\nc\n", 4},
	})
}

// TestOverSelected, P1813: every cluster but breaks.
func TestOverSelected(t *testing.T) {
	text := "abe\u0301\r\n\r\ncd\n"
	doesRows(t, usual, text, []deedRow{
		{"lvrx", "axe\u0301\r\n\r\ncd\n", 1}, {"lvlrx", "axx\r\n\r\ncd\n", 1}, {"lv2jrx", "axx\r\n\r\nxx\n", 1}, {"Vrx", "xxx\r\n\r\ncd\n", 0}, {"VGrx", "xxx\r\n\r\nxx\n", 0}, {"GVkkrx", "xxx\r\n\r\nxx\n", 0}, {"lvjrx", "axx\r\n\r\ncd\n", 1}, {"vr\t", "\tbe\u0301\r\n\r\ncd\n", 0}, {"lvr\u0301", "a\u0301e\u0301\r\n\r\ncd\n", 0}, {"v9rx", "xbe\u0301\r\n\r\ncd\n", 0},
	})
	load(t, text).does("lvGrx").sees("axx\r\n\r\nxd\n", 1).does("u").sees(text, 1).refuses('u', api.ErrOldest).does("␒").sees("axx\r\n\r\nxd\n", 1)
	load(t, "\n\n").does("vj").answers("rx", api.ErrNothing).does("Vj").answers("rx", api.ErrNothing).sees("\n\n", 0)
	setup{api.Latin1, 9, api.LF, 5, 5}.load(t, []byte("ab")).does("vl").answers("r\u0100", api.ErrFit).sees("ab", 0).does("vlr\u00ff").sees("\u00ff\u00ff", 0)
	usual.limited(3).load(t, []byte("ab")).does("vl").answers("r\u00e9", api.ErrFull).sees("ab", 0)
	setup{api.Latin1, 2, api.LF, 5, 5}.load(t, []byte("\n\n")).does("v").answers("r\u0100", api.ErrNothing)
	// marks: each cluster is an edit of its own
	load(t, "abc").does("lma0vllrx").marked('a', 1)
}

// TestPutSelected, P1813: the four ways of span and text, with counts; nothing goes to a register.
func TestPutSelected(t *testing.T) {
	for _, c := range []struct {
		text string
		kind int
		reg  string
		keys string
		want string
		at   int
	}{
		// both by characters
		{"abcd", api.ByChars, "XY", "lvlp", "aXYd", 1}, {"abcd", api.ByChars, "XY", "lvlP", "aXYd", 1}, {"abcd", api.ByChars, "XY", "lvl2p", "aXYXYd", 1}, {"abcd", api.ByChars, "X\nY", "lvlp", "aX\nYd", 1}, {"abcd", api.ByChars, "X", "v$p", "X", 0}, {"a\n\nb", api.ByChars, "X", "jvp", "a\nX\nb", 2},
		// both by lines
		{"a\nb\nc\n", api.ByLines, "X\n", "jVp", "a\nX\nc\n", 2}, {"a\nb\nc\n", api.ByLines, "X\nY\n", "VjP", "X\nY\nc\n", 0}, {"a\nb\nc", api.ByLines, "X\n", "GVp", "a\nb\nX", 4}, {"a\nb\nc", api.ByLines, "X\n", "GV2p", "a\nb\nX\nX", 4}, {"a\nb\nc", api.ByLines, "X\r\n", "VG2p", "X\r\nX", 0}, {"", api.ByLines, "X\n", "Vp", "X", 0}, {"a\nb", api.ByLines, "\n", "GVp", "a\n", 0}, {"a\r\nb\r\n", api.ByLines, "X\n", "Vp", "X\nb\r\n", 0},
		// span by lines, text by characters
		{"a\nb\nc\n", api.ByChars, "X", "jVp", "a\nX\nc\n", 2}, {"a\nb\nc\n", api.ByChars, "X", "jVk3P", "XXX\nc\n", 0}, {"a\nb", api.ByChars, "X", "GVp", "a\nX", 2}, {"a\r\nb", api.ByChars, "X", "Vp", "X\r\nb", 0},
		// span by characters, text by lines
		{"abcd", api.ByLines, "X\n", "lvlp", "a\nX\nd", 0}, {"abcd", api.ByLines, "X\n", "lvl2p", "a\nX\nX\nd", 0}, {"abcd", api.ByLines, "X\r\nY\r\n", "lvlP", "a\nX\r\nY\nd", 0}, {"abcd", api.ByLines, "X\n", "vp", "\nX\nbcd", 0}, {"a\n\nb", api.ByLines, "X\n", "jvp", "a\n\nX\n\nb", 2},
	} {
		x := load(t, c.text).bank('a', c.kind, c.reg)
		before := x.state().Regs
		keys := strokes(c.keys)
		x.does(show(keys[:len(keys)-1]) + "\"a" + show(keys[len(keys)-1:]))
		if s := x.m.See(); show(s.Text) != c.want || s.At != c.at || s.Mode != api.Normal {
			t.Errorf("%q, %d %q, keys %q: %q, At %d; want %q, %d", c.text, c.kind, c.reg, c.keys, show(s.Text), s.At, c.want, c.at)
		}
		if after := x.state().Regs; len(after) != len(before) || !sameReg(after['a'], before['a']) || !sameReg(after[0], before[0]) {
			t.Errorf("%q: the registers have changed: %v", c.keys, after)
		}
		low, _ := x.m.Desk().Book.Mark('<')
		x.does("u")
		if s := x.m.See(); show(s.Text) != c.text {
			t.Errorf("%q behind the undo: %q (%d)", c.keys, show(s.Text), low)
		}
		x.refuses('u', api.ErrOldest)
	}
	// native breaks just as they are, whatever they come to stand beside
	x := load(t, "a\rb\nc").bank('a', api.ByLines, "X\n")
	x.both(setNative(api.LF))
	x.does("jv\"ap").sees("a\r\nX\n\nc", 0)
	x = load(t, "abc").bank('a', api.ByLines, "X\r")
	x.both(setNative(api.CRLF))
	x.does("lv\"ap").sees("a\r\nX\r\nc", 0)
	// refused
	usual.limited(6).load(t, []byte("abcd")).bank('a', api.ByChars, "XYZ").does("lv").answers("2\"ap", api.ErrFull).sees("abcd", 1).does("lv").answers("9999\"ap", api.ErrFull).does("v\"ap")
	y := setup{api.Latin1, 9, api.LF, 5, 5}.load(t, []byte("ab")).bank('a', api.ByChars, "\u0100")
	y.does("v").answers("\"ap", api.ErrFit).does("v").answers("9999\"ap", api.ErrFit).sees("ab", 0)
	for _, text := range []string{"\n", "x", "\r\n", "ab\r\n"} {
		for _, keys := range []string{"v9999\"ap", "V9999\"ap", "GV9999\"ap"} {
			z := setup{api.UTF8, 65536, api.LF, 5, 5}.load(t, []byte("a\nb")).bank('a', api.ByLines, text)
			z.keys(keys)
			z = setup{api.UTF8, 9999, api.LF, 5, 5}.load(t, []byte("a\nb")).bank('a', api.ByLines, text)
			z.keys(keys)
		}
	}
}

// TestObjectsInASelection, P1813.
func TestObjectsInASelection(t *testing.T) {
	text := "ab (cd e\u0301) \"q\"\n\nx\ny\n\n"
	for _, c := range []struct {
		keys           string
		mode, from, at int
		err            api.Errno
	}{
		{"viw", api.Visual, 0, 1, 0}, {"vaw", api.Visual, 0, 2, 0}, {"v3iw", api.Visual, 0, 3, 0}, {"Viw", api.VisualLine, 0, 1, 0}, {"5lvib", api.Visual, 4, 7, 0}, {"5lvab", api.Visual, 3, 9, 0}, {"7lviw", api.Visual, 7, 7, 0}, {"vi\"", api.Visual, 12, 12, 0}, {"va\"", api.Visual, 10, 13, 0}, {"vip", api.VisualLine, 0, 0, 0}, {"vap", api.VisualLine, 0, 15, 0}, {"Vip", api.VisualLine, 0, 0, 0}, {"jjvip", api.VisualLine, 16, 18, 0}, {"jjv2ip", api.VisualLine, 16, 20, 0}, {"jjvap", api.VisualLine, 16, 20, 0},
		{"vi{", api.Visual, 0, 0, api.ErrObject}, {"v12iw", api.Visual, 0, 0, api.ErrObject}, {"jviw", api.Visual, 15, 15, api.ErrObject},
	} {
		x := load(t, text)
		if c.err != api.OK {
			x.fails(c.keys, c.err)
		} else {
			x.does(c.keys)
		}
		if s := x.m.See(); s.Mode != c.mode || s.Anchor != c.from || s.At != c.at {
			t.Errorf("%q: mode %d, %d to %d; want %d, %d to %d", c.keys, s.Mode, s.Anchor, s.At, c.mode, c.from, c.at)
		}
	}
	load(t, "a()b\n").fails("lvib", api.ErrObject).does("ab").seen(api.Sight{Mode: api.Visual, Anchor: 1, At: 2, Percent: 100, Cell: 2})
	load(t, "").fails("vip", api.ErrObject).fails("ap", api.ErrObject)
	load(t, "{\na\nb\n}\n").does("viB").seen(api.Sight{Mode: api.VisualLine, Anchor: 2, At: 4, Percent: 75})
	load(t, "ab cd ef").does("wviwd").sees("ab  ef", 3)
	load(t, "a\n\nb\n").does("vipd").sees("\nb\n", 0)
}

// TestWhatKeepsASelection, P1813: marks, recordings, playing, scrolling, motions, searches.
func TestWhatKeepsASelection(t *testing.T) {
	x := usual.high(2).load(t, []byte("ab\ncd\nef\ngh\n")).bank('a', api.ByChars, "jl").bank('b', api.ByChars, "d")
	x.does("lvma").mode(api.Visual).marked('a', 1).does("qq").mode(api.Visual).does("jq").mode(api.Visual).holds('q', api.ByChars, "j").does("␅").mode(api.Visual).does("zt").mode(api.Visual).does("/g⏎").seen(api.Sight{Mode: api.Visual, Anchor: 1, At: 9, Percent: 100, Top: 2})
	x.does("gg@q").seen(api.Sight{Mode: api.Visual, Anchor: 1, At: 3, Percent: 50}).does("@b").mode(api.Normal).sees("ad\nef\ngh\n", 1)
	x.does("V@q").mode(api.VisualLine).does("@@").at(7).does("k@b").sees("gh\n", 0)
}
