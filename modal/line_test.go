package modal_test

import (
	"slices"
	"strings"
	"testing"

	"copyist/api"
	"copyist/operate"
)

// TestSearches, P1814: in both directions, as motions and behind operators, with counts.
func TestSearches(t *testing.T) {
	text := "one two\ntwo one\nthree\n"
	doesRows(t, usual, text, []deedRow{
		{"/two⏎", text, 4}, {"2/two⏎", text, 8}, {"3/two⏎", text, 4}, {"?two⏎", text, 8}, {"2?two⏎", text, 4}, {"/t⏎", text, 4}, {"4/t⏎", text, 4}, {"/o$⏎", text, 6}, {"/^⏎", text, 8}, {"j/^$\\|^th⏎", text, 16}, {"/\\<o⏎", text, 12},
		{"d/two⏎", "two\ntwo one\nthree\n", 0}, {"d2/two⏎", "\ntwo one\nthree\n", 0}, {"2d/o⏎", "o one\nthree\n", 0}, {"$d?one⏎", "o\ntwo one\nthree\n", 0}, {"y/two⏎P", "one one two\ntwo one\nthree\n", 3}, {"c/two⏎X␛", "Xtwo\ntwo one\nthree\n", 0},
	})
	load(t, text).does(">/three⏎").sees("\tone two\n\ttwo one\nthree\n", 1)
	load(t, text).does("gU/wo⏎").sees("ONE Two\ntwo one\nthree\n", 0)
	x := load(t, text).does("/tw").seen(api.Sight{Mode: api.Search, Anchor: -1, Percent: 33, Line: spell("tw")}).does("⏎").mode(api.Normal).holds('/', api.ByChars, "tw")
	if show(x.m.Desk().Find) != "tw" {
		t.Errorf("%q", show(x.m.Desk().Find))
	}
	x.does("n").at(8).does("?one⏎").at(0).holds('/', api.ByChars, "one").does("n").at(12).does("N").at(0)
	// in a selection: the selection is there again
	x = load(t, text).does("lv/th⏎").seen(api.Sight{Mode: api.Visual, Anchor: 1, At: 16, Percent: 100}).does("?wo⏎").seen(api.Sight{Mode: api.Visual, Anchor: 1, At: 9, Percent: 66, Cell: 1}).does("d").sees("oo one\nthree\n", 1)
	load(t, text).does("lV/two⏎").seen(api.Sight{Mode: api.VisualLine, Anchor: 1, At: 4, Percent: 33, Cell: 4}).does("n").at(8)
}

// TestSearchOfNothing, P1814: an empty line seeks what was sought last, in its own direction.
func TestSearchOfNothing(t *testing.T) {
	x := load(t, "a b a b").does("/").refusesInLine(13, api.ErrEmpty).mode(api.Normal).does("d?").refusesInLine(13, api.ErrEmpty).mode(api.Normal).does("v/").refusesInLine(13, api.ErrEmpty).mode(api.Visual).does("␛")
	x.does("/b⏎").at(2).does("/⏎").at(6).does("?⏎").at(2).does("n").at(6).does("N").at(2).does("d/⏎").sees("a b", 2).holds('/', api.ByChars, "b")
	x.both(func(d *operate.Desk) { d.Find = spell("a") })
	x.does("/⏎").at(0).holds('/', api.ByChars, "a")
}

// refusesInLine gives a key that ends a line with an error: but for the mode and the line nothing has changed.
func (x *pair) refusesInLine(k int, want api.Errno) *pair {
	x.t.Helper()
	ahead := x.state()
	if _, err := x.key(k); err != want {
		x.t.Fatalf("key %d: %d, want %d", k, err, want)
	}
	behind := x.state()
	ahead.Mode, ahead.Line, ahead.Anchor = behind.Mode, nil, behind.Anchor
	if !behind.equal(ahead) {
		x.t.Fatalf("refused by %d, and yet something has changed:\n got %+v\nwant %+v", want, behind, ahead)
	}
	return x
}

// TestSearchErrors, P1814: a pattern that can't be compiled leaves the last search as it was; one that is not found is the last search.
func TestSearchErrors(t *testing.T) {
	x := load(t, "a b a b").does("$?b⏎").at(2)
	x.does("/[").refusesInLine(13, api.ErrPattern).mode(api.Normal).at(2).holds('/', api.ByChars, "b").does("n").at(6)
	x.does("d/\\(").refusesInLine(13, api.ErrPattern).does("n").at(2)
	x.does("/"+strings.Repeat("x", 257)).refusesInLine(13, api.ErrLong).does("/\\%(\\%(a\\{99}\\)\\{99}\\)").refusesInLine(13, api.ErrBig).does("v/*").refusesInLine(13, api.ErrPattern).mode(api.Visual).does("␛n").at(6)
	x.answers("/zz⏎", api.ErrMatch).mode(api.Normal).at(6).holds('/', api.ByChars, "zz").refuses('n', api.ErrMatch)
	x.does("v").answers("?q⏎", api.ErrMatch).seen(api.Sight{Mode: api.Visual, Anchor: 6, At: 6, Percent: 100, Cell: 6}).does("␛")
	x.answers("c/zz⏎", api.ErrMatch).mode(api.Normal).sees("a b a b", 6)
	x.both(func(d *operate.Desk) { d.Set.NoWrap = true })
	x.answers("/a⏎", api.ErrMatch).does("?a⏎").at(4).does("n").at(0).refuses('n', api.ErrMatch).does("N").at(4)
	x.both(func(d *operate.Desk) { d.Set.IgnoreCase = true })
	x.does("/B⏎").at(6)
}

// TestSearchGivenUp, P1814: both the line and the command.
func TestSearchGivenUp(t *testing.T) {
	for _, keys := range []string{"/␛", "/ab␛", "?⌫", "/a⌫⌦", "d/a␛", "c?x␛", "3y/b␛", "\"a2d/⌫", "v/a␛", "V?⌫", "/␖a␛", "/␖␛⌫⌫"} {
		x := load(t, "a b a").does("ll")
		ahead := x.state()
		x.does(keys)
		if got := x.m.See(); got.Mode == api.Visual || got.Mode == api.VisualLine {
			if got.Anchor != 2 {
				t.Errorf("%q: %+v", keys, got)
			}
			x.does("␛")
			continue
		}
		if !x.state().equal(ahead) {
			t.Errorf("%q: %+v", keys, x.state())
		}
		x.refuses('n', api.ErrEmpty).refuses('.', api.ErrNothing)
	}
}

// TestLineKeys, P1815: the keys of a line, in all its modes.
func TestLineKeys(t *testing.T) {
	for _, begin := range []string{":", "/", "?", "d/"} {
		line := func(keys, want string) {
			t.Helper()
			x := load(t, "ab").does(begin + keys)
			if s := x.m.See(); s.Mode < api.Command || !slices.Equal(s.Line, spell(want)) {
				t.Fatalf("%q: mode %d, %q, want %q", begin+keys, s.Mode, show(s.Line), want)
			}
		}
		line("", "")
		line("ab c", "ab c")
		line("a\t\u20ac\u0080", "a\t\u20ac\u0080")
		line("abc⌫", "ab")
		line("abc⌦⌫", "a")
		line("ab c␕", "")
		line("␕", "")
		line("␗", "")
		line("ab cd␗", "ab ")
		line("ab cd  ␗", "ab ")
		line("ab cd␗␗", "")
		line("ab,,␗", "ab")
		line("  ␗", "")
		line("a␖␛", "a\x1b")
		line("a␖⌫␖\x00␖␖␖␕", "a\b\x00\x16\x15")
		x := load(t, "ab").does(begin + "x")
		for _, k := range []int{10, 0, 1, 6, 18, 28, -1, 0xD800, 0x110000} {
			x.refuses(k, api.ErrKey)
		}
		for _, k := range []int{10, 13, -1, 0xDFFF, 0x110000} {
			x.does("␖").refuses(k, api.ErrKey)
			if s := x.m.See(); len(s.Pending) > 0 || show(s.Line) != "x" {
				t.Fatalf("%d: %+v", k, s)
			}
		}
		// as long as a line may be, and one more
		x = load(t, "ab").does(begin+strings.Repeat("x", api.MaxLine)).refuses('y', api.ErrLong).does("␖").refuses('y', api.ErrLong)
		if n := len(x.m.See().Line); n != api.MaxLine {
			t.Fatalf("%d", n)
		}
		x.does("␖").refuses(13, api.ErrKey).does("⌫y").refuses('z', api.ErrLong).does("␗␛").mode(api.Normal)
	}
}

// TestCommandLines, P1815: what a line does, with a count, from a selection.
func TestCommandLines(t *testing.T) {
	text := "a\nb\nc\nd\n"
	doesRows(t, usual, text, []deedRow{
		{":2d⏎", "a\nc\nd\n", 2}, {":d⏎", "b\nc\nd\n", 0}, {"1:d⏎", "b\nc\nd\n", 0}, {"2:d⏎", "c\nd\n", 0}, {"3:d⏎", "d\n", 0}, {"Vj:d⏎", "c\nd\n", 0}, {"jvj:d⏎", "a\nd\n", 2}, {"jVk:d⏎", "c\nd\n", 0}, {"G:d⏎", "a\nb\nc\n", 4}, {":3⏎", text, 4}, {":%j⏎", "a b c d\n", 5}, {":2,3m0⏎", "b\nc\na\nd\n", 2}, {":⏎", text, 0}, {":␛", text, 0}, {":d⌫⌫", text, 0}, {"v:␕2d⏎", "a\nc\nd\n", 2}, {":s/a/b/⏎:u⏎", text, 0}, {":d⏎:u⏎:red⏎", "b\nc\nd\n", 0},
	})
	line := func(keys, want string) {
		t.Helper()
		if got := load(t, text).does(keys).m.See().Line; !slices.Equal(got, spell(want)) {
			t.Errorf("%q: %q, want %q", keys, show(got), want)
		}
	}
	line(":", "")
	line("1:", ".")
	line("2:", ".,.+1")
	line("9999:", ".,.+9998")
	line("99999:", ".,.+9998")
	line("v:", "'<,'>")
	line("V3:", "'<,'>")
	line("\"a:", "")
	load(t, text).does("jvj:").mode(api.Command).at(2).marked('<', 2).marked('>', 4).does("␛").mode(api.Normal).at(2)
	load(t, text).answers("9:d⏎", api.ErrLine).mode(api.Normal).holds(':', api.ByChars, ".,.+8d")
	// the register gets the line, whatever comes of it; not an empty one, nor one that is given up
	x := load(t, text).does(":k a⏎").holds(':', api.ByChars, "k a").answers(":zz⏎", api.ErrCommand).holds(':', api.ByChars, "zz").does(":⏎").holds(':', api.ByChars, "zz").does(":d␛").holds(':', api.ByChars, "zz").does(":d⌫⌫").holds(':', api.ByChars, "zz")
	x.does(":pu :⏎").sees("a\npu :\nb\nc\nd\n", 2).does("u").answers(":g/a/s/q/x⏎:s/q/x⏎", api.ErrMatch).holds(':', api.ByChars, "s/q/x")
	// errors are the line's, as they are
	for _, c := range []row{{":9d⏎", 0, api.ErrLine}, {":/q/d⏎", 0, api.ErrMatch}, {":'z d⏎", 0, api.ErrMark}, {":1,2,3⏎", 0, api.ErrAddress}, {":d 0⏎", 0, api.ErrTail}, {":u⏎", 0, api.ErrOldest}, {":&⏎", 0, api.ErrEmpty}, {":2,1d⏎", 0, api.ErrLine}, {":1,2m1⏎", 0, api.ErrInto}, {":g/a/w⏎", 0, api.ErrNested}} {
		load(t, text).answers(c.keys, c.err).mode(api.Normal).sees(text, 0)
	}
	// one group, and no last change
	load(t, text).does(":%s/^/x/⏎").sees("xa\nxb\nxc\nxd\n", 9).refuses('.', api.ErrNothing).does("u").sees(text, 0)
}

// TestWishes, P1815: what a line asks of the session.
func TestWishes(t *testing.T) {
	for keys, want := range map[string]api.Wish{
		":w⏎": {Verb: api.XWrite}, ":w! b⏎": {Verb: api.XWrite, Force: true, Name: "b"}, ":e x⏎": {Verb: api.XEdit, Name: "x"}, ":q⏎": {Verb: api.XQuit}, ":q!⏎": {Verb: api.XQuit, Force: true}, ":wq a⏎": {Verb: api.XWriteQuit, Name: "a"}, ":x⏎": {Verb: api.XExit}, ":r y⏎": {Verb: api.XRead, Name: "y", Line: 1}, "2:r y⏎": {Verb: api.XRead, Name: "y", Line: 2}, ":0r y⏎": {Verb: api.XRead, Name: "y"}, ":f z⏎": {Verb: api.XFile, Name: "z"}, "Vj:r⏎": {Verb: api.XRead, Line: 2}, ":/b/r⏎": {Verb: api.XRead, Line: 2},
	} {
		x := load(t, "a\nb\nc\n")
		all := strokes(keys)
		x.does(show(all[:len(all)-1]))
		if w, err := x.key(13); err != api.OK || w != want {
			t.Errorf("%q: %+v, %d, want %+v", keys, w, err, want)
		}
		if w, _ := x.key('j'); w != (api.Wish{}) {
			t.Errorf("%q: the wish is told again: %+v", keys, w)
		}
	}
	// while keys are played they are not run; all else is, and the register gets the line
	for _, line := range []string{"w", "e x", "q!", "wq", "x", "r y", "f", "2r"} {
		x := load(t, "a\nb\n").bank('a', api.ByLines, ":"+line+"\n").bank('b', api.ByChars, "@a").bank('c', api.ByChars, ":"+line)
		x.answers("@a", api.ErrNested).mode(api.Normal).holds(':', api.ByChars, line).answers("@b", api.ErrNested)
		x.does("@c").mode(api.Command)
		if w, err := x.key(13); err != api.OK || w.Verb < api.XWrite {
			t.Errorf("%q: %+v, %d", line, w, err)
		}
	}
	x := load(t, "a\nb\n").bank('a', api.ByLines, ":2d\n:zz\n").bank('b', api.ByLines, ":w 1 2\n").bank('c', api.ByLines, ":g/a/w\n").bank('d', api.ByChars, ":k a\nx:u\n")
	x.answers("@a", api.ErrCommand).sees("a\n", 0).answers("@b", api.ErrTail).answers("@c", api.ErrNested).does("@d").sees("a\n", 0)
}

// TestDirectionBehindALine, P1815: a line that leaves another pattern is sought forward from then on.
func TestDirectionBehindALine(t *testing.T) {
	text := "a b a b a b\nx\n"
	load(t, text).does("$?a⏎n").at(4).does(":/b/⏎").at(0).does("n").at(2).does("n").at(6)
	load(t, text).does("$?b⏎").at(6).does(":s/b/b/⏎$").at(10).does("n").at(6)
	load(t, text).does("$?b⏎").at(6).does(":s/a/a/⏎").at(0).does("n").at(4)
	load(t, text).does("$?b⏎").at(6).answers(":s/q/a/⏎", api.ErrMatch).does("n").at(2)
	load(t, text).does("$?b⏎").at(6).does(":k z⏎").does("n").at(2)
	load(t, text).does("$?b⏎").at(6).does(":s//b/⏎$n").at(6)
}
