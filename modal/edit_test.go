package modal_test

import (
	"slices"
	"strings"
	"testing"

	"copyist/api"
)

// TestOver, P1807: what may be written over what, and where there is too little.
func TestOver(t *testing.T) {
	doesRows(t, usual, "abc\ne\u0301x\n\n", []deedRow{
		{"rz", "zbc\ne\u0301x\n\n", 0}, {"3rz", "zzz\ne\u0301x\n\n", 2}, {"$rz", "abz\ne\u0301x\n\n", 2}, {"r\t", "\tbc\ne\u0301x\n\n", 0}, {"lr⏎", "a\nc\ne\u0301x\n\n", 2}, {"2r⏎", "\nc\ne\u0301x\n\n", 1}, {"jrz", "abc\nzx\n\n", 4}, {"j2rz", "abc\nzz\n\n", 5}, {"lr\u0301", "a\u0301c\ne\u0301x\n\n", 0}, {"r\u20ac", "\u20acbc\ne\u0301x\n\n", 0}, {"r\u0080", "\u0080bc\ne\u0301x\n\n", 0},
	})
	x := load(t, "abc\n\n")
	for _, k := range []int{0, 1, 8, 10, 11, 12, 14, 31, 127, -1, -300, 0xD800, 0xDFFF, 0x110000, 1 << 50} {
		x.does("r").refuses(k, api.ErrKey)
	}
	x.does("r␛").fails("4rz", api.ErrNothing).fails("l3rz", api.ErrNothing).fails("jrz", api.ErrNothing).fails("r⏎", api.ErrNothing)
	setup{api.Latin1, 3, api.LF, 5, 5}.load(t, []byte("ab")).fails("r\u0100", api.ErrFit).does("r\u00ff").fails("3r\u00ff", api.ErrNothing)
	usual.limited(4).load(t, []byte("abc")).does("r\u00e9").fails("lr\u00e9", api.ErrFull)
	for i, native := range natives {
		want := []string{"a\nc", "a\r\nc", "a\rc"}[i]
		usual.broken(native).load(t, []byte("abc")).does("lr⏎").sees(want, len(want)-1)
	}
}

// TestPut, P1807: by characters and by lines, ahead and behind, with counts and registers.
func TestPut(t *testing.T) {
	doesRows(t, usual, "ab\nc", []deedRow{
		{"xp", "ba\nc", 1}, {"x3p", "baaa\nc", 3}, {"xP", "ab\nc", 0}, {"x2P", "aab\nc", 1}, {"yyp", "ab\nab\nc", 3}, {"yy2p", "ab\nab\nab\nc", 3}, {"yyP", "ab\nab\nc", 0}, {"yyjp", "ab\nc\nab", 5}, {"jyyp", "ab\nc\nc", 5}, {"\"ayl\"ap", "aab\nc", 1}, {"yljp", "ab\nca", 4}, {"ddp", "c\nab", 2},
	})
	load(t, "ab").refuses('p', api.ErrEmpty).refuses('P', api.ErrEmpty).fails("\"ap", api.ErrEmpty).fails("\"!p", api.ErrReg).fails("\"_P", api.ErrEmpty)
	usual.limited(5).load(t, []byte("ab")).does("yl3p").sees("aaaab", 3).refuses('p', api.ErrFull).fails("9999P", api.ErrFull)
	x := setup{api.Latin1, 99, api.LF, 5, 5}.load(t, []byte("ab")).bank('a', api.ByChars, "\u20ac")
	x.fails("\"ap", api.ErrFit).fails("\"a9999P", api.ErrFit)
}

// TestJoin, P1807: two lines at least, or those that there are.
func TestJoin(t *testing.T) {
	doesRows(t, usual, "a\n b\n)\nc", []deedRow{
		{"J", "a b\n)\nc", 1}, {"1J", "a b\n)\nc", 1}, {"2J", "a b\n)\nc", 1}, {"3J", "a b)\nc", 3}, {"4J", "a b) c", 4}, {"99J", "a b) c", 4}, {"gJ", "a b\n)\nc", 1}, {"3gJ", "a b)\nc", 3}, {"jJ", "a\n b)\nc", 4}, {"2jJ", "a\n b\n) c", 6}, {"2j9gJ", "a\n b\n)c", 6},
	})
	load(t, "a\nb").fails("jJ", api.ErrNothing).fails("9gJ", api.ErrNothing)
	load(t, "a\n").refuses('J', api.ErrNothing)
	load(t, "").refuses('J', api.ErrNothing)
}

// TestFlipChar, P1807: clusters up to the line's end; one group; the cursor goes behind them.
func TestFlipChar(t *testing.T) {
	doesRows(t, usual, "aBc\ne\u0301X1\n\n", []deedRow{
		{"~", "ABc\ne\u0301X1\n\n", 1}, {"2~", "Abc\ne\u0301X1\n\n", 2}, {"3~", "AbC\ne\u0301X1\n\n", 2}, {"99~", "AbC\ne\u0301X1\n\n", 2}, {"$~", "aBC\ne\u0301X1\n\n", 2}, {"j~", "aBc\nE\u0301X1\n\n", 6}, {"j2~", "aBc\nE\u0301x1\n\n", 7}, {"j$~", "aBc\ne\u0301X1\n\n", 7},
	})
	x := load(t, "ab\n\n").does("l3~").sees("aB\n\n", 1).does("u").sees("ab\n\n", 1).does("␒").at(1)
	x.fails("j~", api.ErrNothing).does("u02~").sees("AB\n\n", 1).does("u").sees("ab\n\n", 0)
	// nothing to change: no group, but the cursor goes on
	x = load(t, "12").does("~").sees("12", 1).refuses('u', api.ErrOldest)
	x = setup{api.Latin1, 9, api.LF, 5, 5}.load(t, []byte{0xFF, 'a'}).does("2~")
	if s := x.m.See(); !slices.Equal(s.Text, []int{0xFF, 'A'}) || !slices.Equal(s.Tags, []int{0, -1}) {
		t.Errorf("%+v", s)
	}
}

// TestUndo, P1807: as often as it goes; the cursor where the last one was.
func TestUndo(t *testing.T) {
	x := load(t, "abc\nde\n").does("xjxA!␛ggx").sees("c\ne!\n", 0)
	x.does("u").sees("bc\ne!\n", 0).does("u").sees("bc\ne\n", 3).does("2u").sees("abc\nde\n", 0).refuses('u', api.ErrOldest)
	x.does("␒").sees("bc\nde\n", 0).does("2␒").sees("bc\ne!\n", 4).does("99␒").sees("c\ne!\n", 0).refuses(api.KeyCtrlR, api.ErrNewest)
	x.does("99u").sees("abc\nde\n", 0).fails("3u", api.ErrOldest).does("9␒").fails("9␒", api.ErrNewest)
	// the depth
	x = setup{api.UTF8, 100, api.LF, 2, 5}.load(t, []byte("abcdef")).does("xxxx9u").sees("cdef", 0)
	// what it answers is clamped
	load(t, "a\n").does("A⏎b␛u").sees("a\n", 0)
}

// TestMark, P1807: every name that there is, and none that there is not.
func TestMark(t *testing.T) {
	for k := -2; k < 200; k++ {
		x := load(t, "abc").does("l")
		switch {
		case k == api.KeyEscape:
			x.does("m␛")
		case k >= 'a' && k <= 'z' || k == '<' || k == '>' || k == '\'':
			x.does("m").does(string(rune(k))).marked(k, 1)
		case k == '`':
			x.does("m`").marked('\'', 1)
		default:
			x.does("m").refuses(k, api.ErrMark)
		}
	}
	load(t, "abc\nd").does("lmaJ").marked('a', 1).does("0ix␛").marked('a', 2).does("u").marked('a', 1)
}

// TestSubstituteAgain, P1807: as the command line, but its register stays as it was.
func TestSubstituteAgain(t *testing.T) {
	x := load(t, "a a\na a\n").does(":s/a/b/⏎").sees("b a\na a\n", 0).holds(':', api.ByChars, "s/a/b/")
	x.does("&").sees("b b\na a\n", 0).holds(':', api.ByChars, "s/a/b/").answers("&", api.ErrMatch).does("j3&").sees("b b\nb a\n", 4).holds('/', api.ByChars, "a")
	x.does("u").sees("b b\na a\n", 4)
	load(t, "a").refuses('&', api.ErrEmpty).empty(':')
	// a search of its own is sought forward from then on
	x = load(t, "a b a b\n").does(":s/b/x/⏎").does("u$?a⏎").at(4).does("&").sees("a x a b\n", 0).holds('/', api.ByChars, "b").does("u0n").at(2).does("?b⏎").at(6).does("&").does("uN").at(2)
}

// TestLeave, P1807: wishes; while keys are played they are refused.
func TestLeave(t *testing.T) {
	x := load(t, "a").does("x")
	for keys, want := range map[string]api.Wish{"ZZ": {Verb: api.XExit}, "ZQ": {Verb: api.XQuit, Force: true}, "3ZZ": {Verb: api.XExit}, "\"aZQ": {Verb: api.XQuit, Force: true}} {
		x.does(keys[:len(keys)-1])
		if w, err := x.key(int(keys[len(keys)-1])); err != api.OK || w != want {
			t.Errorf("%q: %+v, %d", keys, w, err)
		}
	}
	x.bank('a', api.ByChars, "ZZ").bank('b', api.ByChars, "ZQ").bank('c', api.ByChars, "@a")
	x.answers("@a", api.ErrNested).answers("@b", api.ErrNested).answers("@c", api.ErrNested)
	if w, err := x.key('l'); w != (api.Wish{}) || err == api.OK {
		t.Errorf("%+v, %d", w, err)
	}
}

// TestFull, P1807, P1808: a text that has no room left.
func TestFull(t *testing.T) {
	x := usual.limited(6).load(t, []byte("ab\ncd\n")).bank('a', api.ByChars, "z").bank('b', api.ByLines, "z\n")
	for _, keys := range []string{"\"ap", "\"aP", "\"bp", "\"bP", "o", "O", ">>", "l\"ap", "99\"ap", "r\u00e9", "3o", "2O"} {
		all := strings.Split(keys, "")
		x.does(strings.Join(all[:len(all)-1], "")).refuses(int([]rune(all[len(all)-1])[0]), api.ErrFull).mode(api.Normal)
	}
	x.does("i").refuses('x', api.ErrFull).refuses(13, api.ErrFull).does("␛").refuses('u', api.ErrOldest)
	x.does("A").refuses('x', api.ErrFull).does("␖").refuses('x', api.ErrFull).mode(api.Insert).does("⌫z␛").sees("az\ncd\n", 1)
	x = setup{api.Latin1, 2, api.LF, 5, 5}.load(t, []byte("ab"))
	x.does("i").refuses(0x100, api.ErrFit).does("␖").refuses(0x20AC, api.ErrFit).mode(api.Insert).does("␛R").refuses(0x100, api.ErrFit).does("x").sees("xb", 1)
}
