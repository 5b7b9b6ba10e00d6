package modal_test

import (
	"slices"
	"strings"
	"testing"

	"copyist/api"
	"copyist/operate"
)

// TestRecording, P1816: into small and great letters.
func TestRecording(t *testing.T) {
	x := load(t, "abc def\n").does("qa").seen(api.Sight{Anchor: -1, Percent: 100, Record: 'a'}).does("xwi!␛/f⏎").empty('a').does("q").holds('a', api.ByChars, "xwi!\x1b/f\r").seen(api.Sight{Anchor: -1, At: 6, Percent: 100, Cell: 6, Dirty: true})
	x.does("qAhq").holds('a', api.ByChars, "xwi!\x1b/f\rh").holds('A', api.ByChars, "xwi!\x1b/f\rh").does("qaq").empty('a').does("qBlq").holds('b', api.ByChars, "l").does("qCq").empty('c')
	// keys that fail are recorded, and those that are given up; keys that are no scalars are not, nor is 10
	x = load(t, "ab").does("qz")
	for _, k := range []int{-1, 10, 0xD800, 0x110000, 'K', 0, 'h', 27, '3', 27, 'd', 'Q', 0x2603} {
		x.key(k)
	}
	x.does("q").holds('z', api.ByChars, "K\x00h\x1b3\x1bdQ\u2603")
	// in every mode; a q that is typed, or that is an argument, ends nothing
	load(t, "abq").does("qaiq␛:q⌫⌫/q⏎0mqq").holds('a', api.ByChars, "iq\x1b:q\b\b/q\r0mq")
	load(t, "abc").does("qavlq").mode(api.Visual).holds('a', api.ByChars, "vl").does("qbVlq").mode(api.VisualLine).holds('b', api.ByChars, "Vl")
	// what was by lines is by characters then
	load(t, "ab\n").does("\"ayyqAxq").holds('a', api.ByChars, "ab\nx").does("\"byyqBq").holds('b', api.ByChars, "b\n")
	for _, k := range []int{'!', '"', '1', '@', '-', -1, 10, 1 << 40, '['} {
		load(t, "ab").does("q").refuses(k, api.ErrReg).does("qbq")
	}
	load(t, "a").does("q␛qaq")
}

// TestRecordingAnew, P1816: what was recorded so far is given up, its register stays as it was.
func TestRecordingAnew(t *testing.T) {
	x := load(t, "abc").bank('a', api.ByChars, "old").does("qal1qb").seen(api.Sight{Anchor: -1, At: 1, Percent: 100, Cell: 1, Record: 'b'}).does("hq").holds('a', api.ByChars, "old").holds('b', api.ByChars, "h")
	x.does("qal\"xqAq").holds('a', api.ByChars, "old").does("qal").fails("1q!", api.ErrReg).does("q").holds('a', api.ByChars, "l1q!")
	// a register that is full
	x = load(t, "a")
	x.both(func(d *operate.Desk) { d.Bank.Set('a', make([]int, api.MaxReg)) })
	x.does("qA").does("mb").answers("q", api.ErrLong)
	if s := x.m.See(); s.Record != 0 {
		t.Errorf("%+v", s)
	}
	if r, _ := x.m.Reg('a'); len(r.Text) != api.MaxReg {
		t.Errorf("%d", len(r.Text))
	}
}

// TestRecordingMuch, P1816: as many keys as a register may have, and no more.
func TestRecordingMuch(t *testing.T) {
	x := load(t, "a").does("qa")
	for range api.MaxReg / 2 {
		x.m.Key('m')
		x.m.Key('b')
	}
	x.m.Key('m')
	x.m.Key('c')
	if _, err := x.m.Key('q'); err != api.OK {
		t.Fatal(err)
	}
	if r, err := x.m.Reg('a'); err != api.OK || len(r.Text) != api.MaxReg || r.Text[api.MaxReg-1] != 'b' {
		t.Errorf("%d, %d", len(r.Text), err)
	}
}

// TestRecordingAndPlaying, P1816: keys that are played are not recorded, the one that began it is; a q that is played ends the recording.
func TestRecordingAndPlaying(t *testing.T) {
	x := load(t, "abcdef").bank('b', api.ByChars, "xl").does("qa@bhq").holds('a', api.ByChars, "@bh").sees("bcdef", 0)
	x.does("@a").sees("cdef", 0)
	x.bank('c', api.ByChars, "lqx").does("qa@c").seen(api.Sight{Anchor: -1, At: 1, Percent: 100, Cell: 1, Dirty: true}).sees("cef", 1).holds('a', api.ByChars, "@c")
	x.bank('d', api.ByChars, "qehi").does("@d").mode(api.Insert).does("!␛q").holds('e', api.ByChars, "!\x1b")
	x.does("qxA!␛3.q").holds('x', api.ByChars, "A!\x1b3.").does("qy2ia␛q").holds('y', api.ByChars, "2ia\x1b")
	// Set's error of a recording that a played q ends
	x = load(t, "abc")
	x.both(func(d *operate.Desk) { d.Bank.Set('a', make([]int, api.MaxReg)) })
	x.bank('b', api.ByChars, "qx").does("qAl").answers("@b", api.ErrLong).sees("abc", 1)
}

// TestPlaying, P1817: with counts, of each kind of register, up to the first error.
func TestPlaying(t *testing.T) {
	x := load(t, "abcdefghij").bank('a', api.ByChars, "x").does("@a").sees("bcdefghij", 0).does("3@a").sees("efghij", 0).does("@@").sees("fghij", 0).does("2@@").sees("hij", 0).does("@A").sees("ij", 0)
	x = load(t, "abcdefghij").bank(0, api.ByChars, "x").does("@\"").does("@0").sees("cdefghij", 0)
	x.holds('-', api.ByChars, "b").fails("@1", api.ErrEmpty).answers("@\"", api.ErrMove)
	load(t, "x\nab\nc").does("dd@1").sees("b\nc", 2)
	for _, k := range []int{'-', '_', '.', ':', '/', '!', 0, -1, 10, '[', 1 << 40} {
		load(t, "ab").does("ix␛:k a⏎/b⏎").does("@").refuses(k, api.ErrReg)
	}
	load(t, "ab").fails("@@", api.ErrEmpty).fails("@a", api.ErrEmpty).fails("@\"", api.ErrEmpty).fails("@9", api.ErrEmpty).fails("@@", api.ErrEmpty)
	// breaks are returns, each of them one
	load(t, "a\nb\nc\nd\ne\n").bank('a', api.ByLines, "x\n").does("2@a").sees("\n\nc\nd\ne\n", 2)
	load(t, "a\nb\nc\nd\ne\n").bank('a', api.ByChars, "\r\n").does("@a").at(2).bank('a', api.ByChars, "\r\r\n\n").does("@a").at(8)
	load(t, "a").bank('a', api.ByChars, "A\r\nx\ry\nz\x1b").does("@a").sees("a\nx\ny\nz", 6)
	// the first error ends all playing; what was done stays, the mode too
	x = load(t, "abcd").bank('a', api.ByChars, "xlhhx").answers("@a", api.ErrMove).sees("bcd", 0)
	x.bank('b', api.ByChars, "x@ax").answers("9@b", api.ErrMove).sees("d", 0)
	x = load(t, "abcd").bank('a', api.ByChars, "lvl\x01d").answers("@a", api.ErrKey).mode(api.Visual).does("␛").bank('a', api.ByChars, "i!\nd").bank('b', api.ByChars, "i!").does("2@b").mode(api.Insert).does("␛").sees("ab!i!cd", 4)
	load(t, "abcd").bank('a', api.ByChars, ":k").does("@a").mode(api.Command).does("a⏎").marked('a', 0)
	load(t, "ab cd").bank('a', api.ByChars, "\"x2d").does("@a").seen(api.Sight{Anchor: -1, Percent: 100, Pending: spell("\"x2d")}).does("w").sees("", 0)
	// atoms that are no keys
	load(t, "ab").both(func(d *operate.Desk) { d.Bank.Set('a', []int{'l', -1 - 0xC3, 'x'}) }).answers("@a", api.ErrKey).sees("ab", 1)
}

// TestPlayedLast, P1817: it is the register that was played last only behind the playing, whatever came of it.
func TestPlayedLast(t *testing.T) {
	load(t, "abcdefgh").bank('a', api.ByChars, "x@@").answers("@a", api.ErrEmpty).sees("bcdefgh", 0).answers("@@", api.ErrMove).sees("", 0)
	load(t, "abcdefgh").bank('a', api.ByChars, "x@@").bank('b', api.ByChars, "l").does("@b").at(1).does("@a").sees("acdefgh", 2).bank('a', api.ByChars, "x").does("@@").sees("acefgh", 2)
	// an inner one is, until the outer one is
	load(t, "abcdefgh").bank('a', api.ByChars, "x@b").bank('b', api.ByChars, "l").does("@a").sees("bcdefgh", 1).does("@@").sees("bdefgh", 2)
	// one that fails; one that can't be played
	load(t, "abc").bank('a', api.ByChars, "hh").bank('b', api.ByChars, "x").does("@b").answers("@a", api.ErrMove).fails("@z", api.ErrEmpty).fails("@!", api.ErrReg).bank('a', api.ByChars, "l").does("@@").at(1)
	// as it is then
	load(t, "abc").bank('a', api.ByChars, "\"ayl").does("@a").holds('a', api.ByChars, "a").does("@@").mode(api.Insert)
	// its text is the one that it had when the playing began
	load(t, "abcdefgh").bank('a', api.ByChars, "x\"ayl").does("3@a").sees("defgh", 0).holds('a', api.ByChars, "d")
}

// TestHowManyKeys, P1817: MaxKeys keys and one more, wherever they come from.
func TestHowManyKeys(t *testing.T) {
	big := setup{api.UTF8, 65536, api.LF, 50, 10}
	text := []byte(strings.Repeat("x", 20000))
	left := func(x *pair) int { return len(x.m.See().Text) }
	x := big.load(t, text).bank('a', api.ByChars, "x").does("4096@a")
	if left(x) != 20000-4096 {
		t.Errorf("%d", left(x))
	}
	x.answers("4097@a", api.ErrSteps)
	if left(x) != 20000-2*4096 {
		t.Errorf("%d", left(x))
	}
	x.does("2@a")
	x = big.load(t, text).bank('a', api.ByChars, strings.Repeat("x", 4095)).bank('b', api.ByChars, "@ax").bank('c', api.ByChars, strings.Repeat("x", 4094)).bank('d', api.ByChars, "@c")
	x.answers("@b", api.ErrSteps)
	if left(x) != 20000-4094 {
		t.Errorf("%d", left(x))
	}
	x.does("@d@d")
	// typing with a count, and the dot, count with them
	x = big.load(t, text).bank('a', api.ByChars, "4093ia\x1b").answers("@a", api.ErrSteps).mode(api.Normal)
	if left(x) != 20000+1+4096-7 {
		t.Errorf("%d", left(x))
	}
	big.load(t, text).does("iab␛2048.u").answers("2049.", api.ErrSteps)
	x = big.load(t, text).does("ia␛4096.u").answers("4097.", api.ErrSteps)
	if left(x) != 20001+4096 {
		t.Errorf("%d", left(x))
	}
	x.mode(api.Normal).does("u").bank('a', api.ByChars, "2.").does("1024@a").answers("1025@a", api.ErrSteps)
}

// TestHowDeep, P1817: MaxDeep deep and one deeper, VPlay and VDot alike; its error is behind all others of its own.
func TestHowDeep(t *testing.T) {
	chain := func(last string, deep int) *pair {
		x := load(t, "abcdefgh")
		for i := range deep - 1 {
			x.bank('a'+i, api.ByChars, "@"+string(rune('b'+i)))
		}
		return x.bank('a'+deep-1, api.ByChars, last)
	}
	chain("x", 16).does("@a").sees("bcdefgh", 0)
	chain("x", 17).answers("@a", api.ErrInner).sees("abcdefgh", 0)
	chain("x@q", 16).answers("@a", api.ErrEmpty)
	chain("x@!", 16).answers("@a", api.ErrReg)
	chain("x@p", 16).answers("@a", api.ErrInner).sees("bcdefgh", 0)
	chain(".", 15).does("x@a").sees("cdefgh", 0)
	chain(".", 16).does("x").answers("@a", api.ErrInner).sees("bcdefgh", 0)
	chain(".", 16).answers("@a", api.ErrNothing)
	chain("3.", 16).does("x").answers("@a", api.ErrInner).does(".").sees("cdefgh", 0)
	chain("2ix\x1b", 16).does("@a").sees("xxabcdefgh", 1)
	chain("A!\x1b", 16).does("@a")
	load(t, "abc").bank('a', api.ByChars, "l@a").answers("@a", api.ErrMove)
	load(t, strings.Repeat("a", 40)).bank('a', api.ByChars, "l@a").answers("@a", api.ErrInner).at(16)
	// the last one played is not the one that was refused
	load(t, strings.Repeat("a", 40)).bank('a', api.ByChars, "l@a").bank('b', api.ByChars, "l").does("@b").answers("@a", api.ErrInner).at(17).answers("@@", api.ErrInner).at(33)
}

// TestDot, P1818: behind each kind of last change, with a count and without.
func TestDot(t *testing.T) {
	for _, c := range []deedRow{
		{"dw.", "c d e f g h\nab\ncd\nef\ngh\n", 0}, {"dw2.", "d e f g h\nab\ncd\nef\ngh\n", 0}, {"dw2..", "f g h\nab\ncd\nef\ngh\n", 0}, {"2dw.", "e f g h\nab\ncd\nef\ngh\n", 0}, {"x.", "b c d e f g h\nab\ncd\nef\ngh\n", 0}, {"x3.", "c d e f g h\nab\ncd\nef\ngh\n", 0}, {"dd.", "cd\nef\ngh\n", 0}, {"dd2.", "ef\ngh\n", 0}, {"d2l.", "c d e f g h\nab\ncd\nef\ngh\n", 0},
		{"cwX␛w.", "X X c d e f g h\nab\ncd\nef\ngh\n", 2}, {"cwX␛w2.", "X X d e f g h\nab\ncd\nef\ngh\n", 2}, {"ccX␛j.", "X\nX\ncd\nef\ngh\n", 2}, {"sX␛w.", "X X c d e f g h\nab\ncd\nef\ngh\n", 2}, {"CX␛j.", "X\nX\ncd\nef\ngh\n", 2}, {"ciwX␛w.", "X X c d e f g h\nab\ncd\nef\ngh\n", 2},
		{"gUww.", "A B c d e f g h\nab\ncd\nef\ngh\n", 2}, {"gUUj.", "A B C D E F G H\nAB\ncd\nef\ngh\n", 16}, {"gUUguu.", "a b c d e f g h\nab\ncd\nef\ngh\n", 0}, {"g~~.", "a b c d e f g h\nab\ncd\nef\ngh\n", 0}, {">>.", "\t\ta b c d e f g h\nab\ncd\nef\ngh\n", 2}, {">>..<<.", "\ta b c d e f g h\nab\ncd\nef\ngh\n", 1}, {">>2.", "\t\ta b c d e f g h\n\tab\ncd\nef\ngh\n", 2},
		{"rXw.", "X X c d e f g h\nab\ncd\nef\ngh\n", 2}, {"rXw3.", "X XXX d e f g h\nab\ncd\nef\ngh\n", 4}, {"ylp.", "aaa b c d e f g h\nab\ncd\nef\ngh\n", 2}, {"ylp3.", "aaaaa b c d e f g h\nab\ncd\nef\ngh\n", 4}, {"yyP.", "a b c d e f g h\na b c d e f g h\na b c d e f g h\nab\ncd\nef\ngh\n", 0}, {"J.", "a b c d e f g h ab cd\nef\ngh\n", 18}, {"jgJ.", "a b c d e f g h\nabcdef\ngh\n", 20}, {"jJ3.", "a b c d e f g h\nab cd ef gh\n", 24}, {"~.", "A b c d e f g h\nab\ncd\nef\ngh\n", 2}, {"~3.", "A B c d e f g h\nab\ncd\nef\ngh\n", 4},
		{"iX␛.", "XXa b c d e f g h\nab\ncd\nef\ngh\n", 0}, {"iX␛3.", "XXXXa b c d e f g h\nab\ncd\nef\ngh\n", 2}, {"2iX␛.", "XXXXa b c d e f g h\nab\ncd\nef\ngh\n", 2}, {"aX␛.", "aXX b c d e f g h\nab\ncd\nef\ngh\n", 2}, {"IX␛.", "XXa b c d e f g h\nab\ncd\nef\ngh\n", 0}, {"AX␛.", "a b c d e f g hXX\nab\ncd\nef\ngh\n", 16}, {"oX␛.", "a b c d e f g h\nX\nX\nab\ncd\nef\ngh\n", 18}, {"OX␛.", "X\nX\na b c d e f g h\nab\ncd\nef\ngh\n", 0}, {"oX␛2.", "a b c d e f g h\nX\nX\nX\nab\ncd\nef\ngh\n", 20}, {"RXY␛w.", "XYb XYd e f g h\nab\ncd\nef\ngh\n", 5}, {"i␖␛X⌫␛.", "\x1b\x1ba b c d e f g h\nab\ncd\nef\ngh\n", 0}, {"i␛.", "a b c d e f g h\nab\ncd\nef\ngh\n", 0},
		{"d/c⏎.", "\ncd\nef\ngh\n", 0}, {"df .", "c d e f g h\nab\ncd\nef\ngh\n", 0}, {"\"add.", "cd\nef\ngh\n", 0}, {"dG.", "", 0}, {"dj.", "gh\n", 0},
	} {
		x := load(t, "a b c d e f g h\nab\ncd\nef\ngh\n")
		x.keys(c.keys)
		if s := x.m.See(); show(s.Text) != c.text || s.At != c.at {
			t.Errorf("%q: %q, At %d; want %q, %d", c.keys, show(s.Text), s.At, c.text, c.at)
		}
	}
}

// TestDotIsNot, P1818: what is no last change, and what fails.
func TestDotIsNot(t *testing.T) {
	for _, keys := range []string{"yy", "yw", "l", "w", "ma", "v␛", "vlx", "vlcX␛", "VU", "V>", "vrX", "vJ", ":s/b/x/⏎", ":d⏎", "G", "zt", "qaq", ":u⏎"} {
		x := load(t, "b b b\nab\ncd\n").keys(keys).refuses('.', api.ErrNothing)
		x = load(t, "b b b\nab\ncd\n").does("xu").keys(keys)
		n := len(x.m.See().Text)
		if n < 2 {
			continue
		}
		x.does("gg0.")
		if got := len(x.m.See().Text); got != n-1 {
			t.Errorf("%q: the last change is another one: %d, %d", keys, got, n)
		}
	}
	load(t, "abc").does("x").fails("3rz", api.ErrNothing).fails("dfz", api.ErrMove).fails("\"!dd", api.ErrReg).fails("9\"bp", api.ErrEmpty).does(".").sees("c", 0)
	load(t, "ab").does("xu").does(".").sees("b", 0).does("u␒.").sees("", 0)
	load(t, "a a").does(":s/a/b/⏎x&0.").sees("b", 0)
	load(t, "abc").refuses('.', api.ErrNothing).fails("3.", api.ErrNothing).does("x.").sees("c", 0)
}

// TestDotCount, P1818: the count of the dot is the last change's from then on, also where the command fails.
func TestDotCount(t *testing.T) {
	load(t, "abcdefghij").does("x3.").sees("efghij", 0).does(".").sees("hij", 0)
	load(t, "abcdefghij").does("2x3..").sees("ij", 0)
	load(t, "abcdef").does("rx").fails("9.", api.ErrNothing).refuses('.', api.ErrNothing).does("2.").sees("xxcdef", 1)
	load(t, "a b c d e").does("cwX␛w2.").sees("X X d e", 2).does("w.").sees("X X X", 4)
	load(t, "one").does("A!␛2..").sees("one!!!!!", 7)
	// the register, the motion and the argument stay
	load(t, "a-b-c-d-e").does("\"adf-2.").sees("d-e", 0).holds('a', api.ByChars, "b-c-")
}

// TestDotSeeks, P1818: what was sought for it, as if it were typed.
func TestDotSeeks(t *testing.T) {
	load(t, "a b c b d b e").does("d/b⏎").sees("b c b d b e", 0).does("/d⏎").at(6).does("0.").sees("b d b e", 0).holds('/', api.ByChars, "b").does("n").at(4)
	load(t, "a b c b d b e").does("$d?b⏎").sees("a b c b d e", 10).does("/c⏎$.").sees("a b c e", 6).does("n").at(2)
	// an empty line: what was sought last then
	load(t, "a b c b d b e").does("/b⏎0d/⏎").sees("b c b d b e", 0).does("/d⏎0.").sees("b d b e", 0)
	// with a count
	load(t, "a b c b d b e").does("d/b⏎2.").sees("b e", 0)
	load(t, "a b c b d b e").does("c/b⏎X␛").sees("Xb c b d b e", 0).does("ll.").sees("XbXb d b e", 2)
	// it fails: that it was sought stays
	load(t, "a b").does("d/b⏎").sees("b", 0).does(":s/b/c/⏎/c⏎").answers(".", api.ErrMatch).holds('/', api.ByChars, "b").refuses('n', api.ErrMatch)
	// n and * go by what is sought then
	load(t, "a b a c b c").does("/b⏎0dn").sees("b a c b c", 0).does("/c⏎0.").sees("c b c", 0)
}

// TestDotTypingFails, P1818: the typing ends behind the first error, which answers; the last change stays whole.
func TestDotTypingFails(t *testing.T) {
	usual.limited(9).load(t, []byte("ab")).does("ixyz␛$.").sees("xyzaxyzb", 6)
	usual.limited(8).load(t, []byte("ab")).does("ixyz␛").sees("xyzab", 2).does("ax␛u").does("ixyz␛").sees("xyxyzzab", 4).answers(".", api.ErrFull).sees("xyxyzzab", 3).mode(api.Normal)
	usual.limited(7).load(t, []byte("ab")).does("ixyz␛$").answers(".", api.ErrFull).sees("xyzaxyb", 5).mode(api.Normal).holds('.', api.ByChars, "xy").does("u").sees("xyzab", 4).does("u").sees("ab", 0).does(".").sees("xyzab", 2).holds('.', api.ByChars, "xyz")
	// not played n - 1 times more behind an error
	usual.limited(7).load(t, []byte("ab")).does("ixy␛").answers("9.", api.ErrFull).sees("xxyxyab", 3)
	load(t, "ab").does("li⌫x␛").sees("xb", 0).does("ib␛u").does("$i⌫y␛").sees("yb", 0).answers(".", api.ErrNothing).sees("yb", 0).mode(api.Normal)
	// a command that fails begins no typing
	load(t, "ab cd").does("cfbX␛").sees("X cd", 0).answers(".", api.ErrMove).mode(api.Normal).sees("X cd", 0)
	usual.limited(5).load(t, []byte("ab")).does("ox␛").answers("2.", api.ErrFull).sees("ab\nx\n", 3).mode(api.Normal).does("u").sees("ab\nx", 3)
	usual.limited(4).load(t, []byte("ab")).does("ox␛").refuses('.', api.ErrFull).mode(api.Normal)
}

// TestDotWithinPlaying, P1818: a dot that is played, and its typing.
func TestDotWithinPlaying(t *testing.T) {
	load(t, "a\nb\nc\n").bank('a', api.ByChars, "j.").does("A!␛2@a").sees("a!\nb!\nc!\n", 7)
	load(t, "a b c d\n").bank('a', api.ByChars, "w.").does("cwX␛").answers("9@a", api.ErrMove).sees("X X X X\n", 6)
	load(t, "a b c d\n").bank('a', api.ByChars, "xu.").does("@a").sees(" b c d\n", 0)
	if x := load(t, "a b").does("A!␛").bank('a', api.ByChars, ".."); !slices.Equal(x.does("@a").m.See().Text, spell("a b!!!")) {
		t.Error("dots")
	}
}
