package modal_test

import (
	"math"
	"slices"
	"strings"
	"testing"

	"copyist/api"
	"copyist/operate"
)

// modes are keys that lead to every mode, with an empty line where there is one.
var modes = []string{"", "v", "V", "i", "R", ":", "/", "?", "v/", "V?", "d/", "c?"}

// TestUnbound, P1803, P1809: keys that are bound to nothing in any mode, ints below 0 and above all scalars, lone units, 10 in every mode.
func TestUnbound(t *testing.T) {
	for _, keys := range modes {
		for _, k := range []int{-1, -7, -256, -257, math.MinInt, math.MaxInt, 0x110000, 0xD800, 0xDFFF, 10, 0, 1, 3, 7, 11, 12, 14, 15, 16, 17, 19, 20, 24, 26, 28, 29, 30, 31} {
			x := load(t, "ab cd\nef\n").does("wma" + keys)
			x.refuses(k, api.ErrKey)
			if len(x.m.See().Pending) > 0 {
				t.Errorf("%q and %d: pending %v", keys, k, x.m.See().Pending)
			}
			x.refuses(k, api.ErrKey)
		}
	}
	// what types nothing and begins no command
	for _, k := range []int{0x80, 0x2603, 'Q', 'K', '~' + 1, '\\', '=', '(', ')', '[', ']', '!', 9} {
		load(t, "ab").refuses(k, api.ErrKey).does("v").refuses(k, api.ErrKey)
	}
	for _, k := range []int{'D', 'C', 'S', 'Y', 'X', 'I', 'A', 'O', 'R', '.', '&', api.KeyCtrlR} {
		load(t, "ab").does("v").refuses(k, api.ErrKey).mode(api.Visual).does("V").refuses(k, api.ErrKey).mode(api.VisualLine)
	}
	for _, keys := range []string{"gx", "ZZ", "gv", "Z"} {
		x := load(t, "ab").does("v")
		x.keys(keys[:1])
		if len(keys) > 1 {
			x.keys(keys[1:])
		}
		x.mode(api.Visual)
	}
	load(t, "ab").does("v").fails("gv", api.ErrKey)
}

// TestPendingBehindAnError, P1803, P1804: an error gives up what was pending, and nothing else.
func TestPendingBehindAnError(t *testing.T) {
	for _, keys := range []string{"d", "2", "\"a", "3\"b2", "2d3", "g", "dg", "\"", "z", "Z", "di", "y2"} {
		x := load(t, "ab cd\nef\n").does("l")
		x.does(keys)
		if !slices.Equal(x.m.See().Pending, spell(keys)) {
			t.Fatalf("%q: pending %v", keys, x.m.See().Pending)
		}
		if strings.HasSuffix(keys, "\"") {
			x.refuses(0, api.ErrKey)
		} else {
			x.refuses(10, api.ErrKey)
		}
		if len(x.m.See().Pending) > 0 {
			t.Fatalf("%q: pending behind the error: %v", keys, x.m.See().Pending)
		}
		x.does(keys).does("␛")
		if len(x.m.See().Pending) > 0 {
			t.Fatalf("%q: pending behind an escape: %v", keys, x.m.See().Pending)
		}
		x.does("x").sees("a cd\nef\n", 1)
	}
	load(t, "ab").fails("di!", api.ErrKey).fails("dfz", api.ErrMove).fails("3dh", api.ErrMove)
	// as an argument 10 is taken as any other key
	load(t, "ab").fails("f␊", api.ErrMove).fails("m␊", api.ErrMark).fails("`␊", api.ErrMark).fails("r␊", api.ErrKey).fails("q␊", api.ErrReg).fails("@␊", api.ErrReg).fails("\"␊x", api.ErrReg)
	load(t, "a").fails("m\x00", api.ErrMark)
}

// TestEscape, P1804: it gives up what is pending; with nothing pending it ends a selection.
func TestEscape(t *testing.T) {
	x := load(t, "abc").does("␛␛l␛2␛d␛").seen(api.Sight{Anchor: -1, At: 1, Percent: 100, Cell: 1})
	x.does("v2␛").mode(api.Visual).does("\"a␛").mode(api.Visual).does("␛").mode(api.Normal).at(1)
	x.does("V\"␛").mode(api.VisualLine).does("l␛").mode(api.Normal).at(2).marked('<', 1).marked('>', 2)
}

// TestTopFollows, P1803: behind every key that is given or played, whatever it answers.
func TestTopFollows(t *testing.T) {
	top := func(x *pair, want int) {
		t.Helper()
		if got := x.m.See().Top; got != want {
			t.Fatalf("Top %d, want %d", got, want)
		}
	}
	x := usual.high(3).load(t, []byte("0\n1\n2\n3\n4\n5\n6\n7\n8\n9\n"))
	x.does("jj")
	top(x, 0)
	x.does("j")
	top(x, 1)
	x.does("G")
	top(x, 7)
	x.does("kk")
	top(x, 7)
	x.does("k")
	top(x, 6)
	x.does("7G3dd")
	top(x, 6)
	// a key that fails
	x.both(func(d *operate.Desk) { d.At = 0 })
	x.refusesButTop(10, api.ErrKey)
	top(x, 0)
	// keys that are played: the window goes down and up again with each of them
	x.bank('a', api.ByChars, "Ggg")
	x.does("jj@a")
	top(x, 0)
	x.bank('b', api.ByChars, "GkkQ")
	x.answers("@b", api.ErrKey)
	top(x, 4)
	x.bank('c', api.ByChars, "ggG3k")
	x.does("@c")
	top(x, 3)
	// typing that the dot plays
	x = usual.high(2).load(t, []byte("a\nb\nc\nd\n"))
	x.does("A⏎x⏎y␛")
	top(x, 1)
	x.does("gg.")
	top(x, 1)
	x.does("2ggO⏎⏎⏎␛")
	top(x, 3)
}

// refusesButTop is as refuses, where Top moves.
func (x *pair) refusesButTop(k int, want api.Errno) {
	x.t.Helper()
	if _, err := x.key(k); err != want {
		x.t.Fatalf("key %d: %d, want %d", k, err, want)
	}
}

const ladder = "0123456789\n0123456789\n0123456789\n"

// TestGoalBehindMotions, P1804: the landing's goal behind the motions of P1805, 1 to 3; the cursor's column behind those of 4 to 8.
func TestGoalBehindMotions(t *testing.T) {
	for _, c := range []struct {
		keys string
		col  int
	}{
		{"l", 1}, {"3l", 3}, {"5|", 4}, {"f7", 7}, {"t7", 6}, {"f7h", 6}, {"f70t9;", 8}, {"$F7", 7}, {"$F50,", 5}, {"$", 9}, {"$0", 0}, {"3l^", 0}, {"w", 0}, {"e", 9}, {"3l_", 0}, {"3lG", 0}, {"3lgg", 0}, {"3l50%", 0},
		{"5|*", 0}, {"5|/3⏎", 3}, {"5|?3⏎", 3}, {"5|ma0`a", 4}, {"5|ma'a", 0}, {"5|H", 0}, {"5|M", 0}, {"5|L", 0}, {"/3⏎nnn", 3}, {"/3⏎N", 3},
		{"4|dh", 2}, {"4|x", 3}, {"4|yl", 3}, {"4|y0", 0}, {"4|gUl", 3}, {"4|>>", 1}, {"4|<<", 0}, {"4|rx", 3}, {"4|3rx", 5}, {"4|ylp", 4}, {"4|ylP", 3}, {"4|J", 10}, {"4|gJ", 10}, {"4|~", 4}, {"4|3~", 6}, {"4|x0u", 3}, {"4|x0u␒", 3},
		{"5|iab␛", 5}, {"5|Axyz␛", 12}, {"5|R␛", 3}, {"5|cwx␛", 4}, {"5|o␛", 0},
		{"4|:s/3/x/⏎", 0}, {"4|:k a⏎", 3}, {"4|:set ic⏎", 3}, {"4|:2⏎", 0},
		{"4|vll", 5}, {"4|vllo", 3}, {"4|vllo␛", 3}, {"4|vll␛gv", 5}, {"4|vllo␛$gv", 3}, {"4|vlld", 3}, {"4|vlly", 3}, {"4|vllU", 3}, {"4|vllrx", 3}, {"4|vll>", 1}, {"4|vJ", 10}, {"4|ylvp", 3}, {"4|viw", 9}, {"4|viwo", 0}, {"4|V", 3}, {"4|Vy", 3},
	} {
		x := load(t, ladder).does(c.keys)
		s := x.m.See()
		line := strings.Count(show(s.Text)[:s.At], "\n")
		if s.Mode != api.Normal {
			x.does("␛")
		}
		rows := strings.Split(show(s.Text), "\n")
		next, key := line+1, "j"
		if next == len(rows)-1 {
			next, key = line-1, "k"
		}
		from := 0
		for _, row := range rows[:next] {
			from += len(row) + 1
		}
		x.does(key).at(from + min(c.col, max(len(rows[next])-1, 0)))
	}
	// the end of the line stays the goal
	load(t, "abc\na\nabcdef\n").does("$j").at(4).does("j").at(11).does("k").at(4).does("k").at(2)
	// a goal outlives a short line
	load(t, "abc\n\nabc\n").does("$hj").at(4).does("j").at(6)
}

// TestGoalIsTheColumn, P1804: where the goal was the end of the line, each of these makes it the cursor's column; and these don't.
func TestGoalIsTheColumn(t *testing.T) {
	for _, c := range []struct {
		keys string
		at   int // behind a j
	}{
		{"yl", 6}, {"rx", 6}, {"~", 6}, {"yl$p", 8}, {"yl$P", 7}, {">>", 6}, {"<<", 4}, {"gUl", 6}, {"x", 4}, {"dd", 9}, {"J", 16}, {"gJ", 15}, {"xu", 6}, {"xu␒", 4}, {"x.", 2}, {"ix␛", 7}, {"a␛", 6}, {"i␛", 5}, {"R␛", 5}, {"cwx␛", 6},
		{":k a⏎", 6}, {":s/c/d⏎", 4}, {":set ic⏎", 6}, {":1⏎", 4}, {"ma`a", 6}, {"ma'a", 4}, {"H", 4},
		{"vo␛", 6}, {"v␛gv␛", 6}, {"viw␛", 6}, {"vy", 6}, {"vrx", 6}, {"v~", 6}, {"vd", 4}, {"v>", 6}, {"yl$vp", 6}, {"yl$vP", 6}, {"vJ", 16}, {"vgJ", 15}, {"Vy", 6}, {"vcx␛", 6},
		{"", 11}, {"v␛", 11}, {"V␛", 11}, {"vv", 11}, {"ma", 11}, {"qaq", 11}, {":␛", 11}, {":⏎", 11}, {"/␛", 11}, {"zt", 11}, {"v:␛", 11}, {"3␛", 11},
	} {
		x := load(t, "abc\nabcdefgh\nabcdefgh\n").does("$" + c.keys + "j")
		if got := x.m.See().At; got != c.at {
			t.Errorf("%q: %d, want %d", c.keys, got, c.at)
		}
	}
}

// TestGoalStays, P1804: what leaves the goal as it is.
func TestGoalStays(t *testing.T) {
	for _, keys := range []string{
		"", "v␛", "V␛", "vv", "VV", "vV␛", "ma", "qaq", "zt", "zz", "zb", ":␛", ":⏎", ":⌫", "/␛", "?⌫", "3␛", "\"a␛", "v:␛", "V:␛", "v/␛␛", "v:␕⏎",
	} {
		load(t, "abcdef\na\nabcdef\n").does("$hj").at(7).does(keys).does("j").at(13)
	}
	// errors
	for _, c := range []struct {
		keys string
		err  api.Errno
	}{
		{"fz", api.ErrMove}, {"h", api.ErrMove}, {"\x01", api.ErrKey}, {"p", api.ErrEmpty}, {"r\x01", api.ErrKey}, {"3rx", api.ErrNothing}, {"d3h", api.ErrMove}, {"\"!x", api.ErrReg}, {"/zz⏎", api.ErrMatch}, {"n", api.ErrEmpty}, {"`z", api.ErrMark}, {".", api.ErrNothing}, {"gv", api.ErrNothing}, {":zz⏎", api.ErrCommand}, {":s/q/x/⏎", api.ErrMatch}, {"&", api.ErrEmpty}, {"u", api.ErrOldest}, {"␒", api.ErrNewest}, {"\"!cw", api.ErrReg}, {"vr\x01", api.ErrKey}, {"vp", api.ErrEmpty}, {"v\"!d", api.ErrReg}, {"viB", api.ErrObject},
	} {
		load(t, "abcdef\na\nabcdef\n").does("$hj").at(7).answers(c.keys, c.err).does("␛j").at(13)
	}
	// the window scrolls, the cursor goes to other lines
	x := usual.high(3).load(t, []byte("abcdef\na\nb\nc\nabcdef\nd\n"))
	x.does("$h␅").at(7).does("␅").at(9).does("␅").at(11).refuses(5, api.ErrMove).does("j").at(17)
	x = usual.high(4).load(t, []byte("abcdef\na\nb\nc\nabcdef\nd\n"))
	x.does("$h␄").at(9).does("␄").at(17).does("␕").at(9).does("5zt").at(17).does("␂").at(11).does("j").at(17)
	// an error of a command on a selection: the cursor has moved, the goal has not
	load(t, "abcdef\nabcdef\n").does("$hv3h").answers("r\x01", api.ErrKey).at(1).does("j").at(8)
}

// TestGoalOfWhatIsDoneAgain, P1804: VDot and VPlay have it as what is done again, what is played.
func TestGoalOfWhatIsDoneAgain(t *testing.T) {
	load(t, "abcdef\nabcdef\nabcdef\n").does("4|x$3h.").at(1).does("j").at(6)
	load(t, "abcdef\nabcdef\nabcdef\n").does("Axy␛0.").at(9).does("j").at(16)
	x := load(t, "abcdef\na\nabcdef\n").bank('a', api.ByChars, "$h").bank('b', api.ByChars, "$hj").bank('c', api.ByChars, "$hjh")
	x.does("@aj").at(7).does("j").at(13).does("gg@bj").at(13).does("gg").answers("@c", api.ErrMove).does("j").at(13)
	// typing that the dot ends because of an error
	x = usual.limited(24).load(t, []byte("abcdef\nabcdef\nabcdef\n")).does("Axy␛j0")
	x.answers(".", api.ErrFull).sees("abcdefxy\nabcdefx\nabcdef\n", 15).does("j").at(22)
}
