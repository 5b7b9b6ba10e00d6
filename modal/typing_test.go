package modal_test

import (
	"strings"
	"testing"

	"copyist/api"
)

// TestTypingBegins, P1808: each way, in a line, in an empty one, in the last one without a break.
func TestTypingBegins(t *testing.T) {
	for _, c := range []struct {
		text, keys string
		want       string // with the typed sign
		at         int    // while it is typed, ahead of the sign
	}{
		{"abc\nd", "li", "a!bc\nd", 1}, {"abc\nd", "la", "ab!c\nd", 2}, {"abc\nd", "$a", "abc!\nd", 3}, {"abc\nd", "lI", "!abc\nd", 0}, {"abc\nd", "A", "abc!\nd", 3}, {"abc\nd", "lR", "a!c\nd", 1},
		{"e\u0301x", "a", "e\u0301!x", 2}, {"e\u0301", "A", "e\u0301!", 2}, {"  ab", "$I", "  !ab", 2}, {"  \n", "I", "  !\n", 2}, {"\t \u0301", "I", "\t! \u0301", 1}, {" \u0301", "I", "! \u0301", 0}, {"  ", "I", "  !", 2},
		{"\nx", "i", "!\nx", 0}, {"\nx", "a", "!\nx", 0}, {"\nx", "I", "!\nx", 0}, {"\nx", "A", "!\nx", 0}, {"\nx", "R", "!\nx", 0}, {"", "i", "!", 0}, {"", "a", "!", 0}, {"", "A", "!", 0}, {"", "I", "!", 0}, {"", "R", "!", 0},
		{"ab\ncd", "o", "ab\n!\ncd", 3}, {"ab\ncd", "lO", "!\nab\ncd", 0}, {"ab\ncd", "jo", "ab\ncd\n!", 6}, {"ab\ncd", "jO", "ab\n!\ncd", 3}, {"ab\n", "o", "ab\n!\n", 3}, {"", "o", "\n!", 1}, {"", "O", "!\n", 0}, {"\n", "o", "\n!\n", 1}, {"x\r\n", "o", "x\r\n!\r\n", 3}, {"x\r\ny", "jO", "x\r\n!\r\ny", 3}, {"x\r\ny", "jo", "x\r\ny\r\n!", 6},
		{"a\rb", "o", "a\r!\rb", 2}, {"a\rb\n", "jO", "a\r!\rb\n", 2},
	} {
		x := load(t, c.text).does(c.keys).at(c.at)
		mode := api.Insert
		if strings.HasSuffix(c.keys, "R") {
			mode = api.Replace
		}
		x.mode(mode).does("!").sees(c.want, c.at+1)
		undone := c.keys[:len(c.keys)-1]
		at := load(t, c.text).does(undone).m.See().At
		x.does("␛u").sees(c.text, at)
	}
}

// TestOpenedLinesMeltWithNothing, P1808, DOC.md, 11.
func TestOpenedLinesMeltWithNothing(t *testing.T) {
	for _, c := range []struct {
		native int
		text   string
		keys   string
		want   string
		at     int
	}{
		{api.LF, "a\n\rb", "jo", "a\n\r\r\nb", 3}, {api.LF, "\n\rb", "jjO", "\n\r\r\nb", 2}, {api.CR, "a\r\n\nb", "o", "a\r\n\r\n\nb", 3}, {api.CRLF, "a\r\nb", "o", "a\r\n\r\nb", 3},
	} {
		x := usual.broken(c.native).load(t, []byte(c.text))
		x.both(setNative(c.native))
		x.does(c.keys).sees(c.want, c.at)
	}
}

// TestTypingBeginsNot, P1808: a line that can't be opened.
func TestTypingBeginsNot(t *testing.T) {
	for _, text := range []string{"ab", "ab\n", "", "a\nb"} {
		x := usual.limited(len(text)).load(t, []byte(text))
		for _, keys := range []string{"o", "O", "3o", "9O"} {
			x.fails(keys, api.ErrFull).mode(api.Normal)
		}
		x.refuses('.', api.ErrNothing).refuses('u', api.ErrOldest)
	}
	x := usual.limited(4).broken(api.CRLF).load(t, []byte("abc"))
	x.refuses('o', api.ErrFull).refuses('O', api.ErrFull).does("xo").sees("bc\r\n", 4)
}

// TestInsertKeys, P1809: every key, in a line, at its beginning, at offset 0, at its end.
func TestInsertKeys(t *testing.T) {
	doesRows(t, usual, "ab  c,d\n\tef e\u0301\u0302x\n\nlast", []deedRow{
		{"ix", "xab  c,d\n\tef e\u0301\u0302x\n\nlast", 1}, {"i\t", "\tab  c,d\n\tef e\u0301\u0302x\n\nlast", 1}, {"i\u0080", "\u0080ab  c,d\n\tef e\u0301\u0302x\n\nlast", 1}, {"i\U0010FFFF", "\U0010FFFFab  c,d\n\tef e\u0301\u0302x\n\nlast", 1}, {"i⏎", "\nab  c,d\n\tef e\u0301\u0302x\n\nlast", 1}, {"lli⏎", "ab\n  c,d\n\tef e\u0301\u0302x\n\nlast", 3},
		{"li⌫", "b  c,d\n\tef e\u0301\u0302x\n\nlast", 0}, {"li⌦", "b  c,d\n\tef e\u0301\u0302x\n\nlast", 0}, {"A⌫⌫", "ab  c\n\tef e\u0301\u0302x\n\nlast", 5}, {"ji⌫", "ab  c,d\tef e\u0301\u0302x\n\nlast", 7}, {"ji␗", "ab  c,d\tef e\u0301\u0302x\n\nlast", 7}, {"ji␕", "ab  c,d\tef e\u0301\u0302x\n\nlast", 7}, {"j$i⌫", "ab  c,d\n\tef x\n\nlast", 12}, {"jji⌦", "ab  c,d\n\tef e\u0301\u0302x\nlast", 16}, {"jji␗⌫", "ab  c,d\n\tef e\u0301\u0302\nlast", 15},
		{"A␗", "ab  c,\n\tef e\u0301\u0302x\n\nlast", 6}, {"A␗␗", "ab  c\n\tef e\u0301\u0302x\n\nlast", 5}, {"4li␗", "c,d\n\tef e\u0301\u0302x\n\nlast", 0}, {"3li␗", " c,d\n\tef e\u0301\u0302x\n\nlast", 0}, {"jA␗", "ab  c,d\n\tef \n\nlast", 12}, {"jA␗␗", "ab  c,d\n\t\n\nlast", 9}, {"jA␗␗␗", "ab  c,d\n\n\nlast", 8},
		{"A␕", "\n\tef e\u0301\u0302x\n\nlast", 0}, {"lli␕", "  c,d\n\tef e\u0301\u0302x\n\nlast", 0}, {"GA␕", "ab  c,d\n\tef e\u0301\u0302x\n\n", 18}, {"GA␕␕", "ab  c,d\n\tef e\u0301\u0302x\n", 17}, {"GA⏎⌫", "ab  c,d\n\tef e\u0301\u0302x\n\nlast", 22},
		{"i␖␛", "\x1bab  c,d\n\tef e\u0301\u0302x\n\nlast", 1}, {"i␖⌫", "\bab  c,d\n\tef e\u0301\u0302x\n\nlast", 1}, {"i␖\x00", "\x00ab  c,d\n\tef e\u0301\u0302x\n\nlast", 1}, {"i␖␖", "\x16ab  c,d\n\tef e\u0301\u0302x\n\nlast", 1}, {"i␖⌦", "\x7fab  c,d\n\tef e\u0301\u0302x\n\nlast", 1}, {"i␖x", "xab  c,d\n\tef e\u0301\u0302x\n\nlast", 1},
	})
	load(t, "").does("i\ud7ff\ue000␖\ud7ff␖\ue000R").sees("\ud7ff\ue000\ud7ff\ue000R", 5)
	for _, n := range []int{63, 64, 65, 200} { // words and blanks of some length
		word, blanks := strings.Repeat("x", n), strings.Repeat(" ", n)
		load(t, "a,"+word+blanks).does("A␗").sees("a,", 2)
		load(t, word+blanks).does("A␗").sees("", 0)
		load(t, "a\n"+blanks).does("jA␗").sees("a\n", 2)
		load(t, word+","+word).does("A␗").sees(word+",", n+1)
	}
	x := load(t, "ab\n").does("i")
	for _, k := range []int{api.KeyBack, api.KeyDelete, api.KeyCtrlW, api.KeyCtrlU} {
		x.refuses(k, api.ErrNothing)
	}
	for _, k := range []int{10, 13, -1, -256, 0xD800, 0xDFFF, 0x110000, 1 << 40} {
		x.does("␖").refuses(k, api.ErrKey)
		if len(x.m.See().Pending) > 0 {
			t.Errorf("%d: the key 22 is still pending", k)
		}
		x.mode(api.Insert)
	}
	x.does("y").sees("yab\n", 1)
	load(t, "").does("i").refuses(8, api.ErrNothing).refuses(23, api.ErrNothing).refuses(21, api.ErrNothing).does("⏎⌫").sees("", 0)
}

// TestInsertWithinACRLF, P1809, DOC.md, 15: the cursor may stand between the two, and what is typed there parts them.
func TestInsertWithinACRLF(t *testing.T) {
	// "a\rb\nc" without its b: the cursor is between 13 and 10
	inside := func() *pair {
		x := load(t, "a\rb\nc")
		x.both(setNative(api.LF))
		return x.does("jcw").sees("a\r\nc", 2)
	}
	inside().does("⌫").sees("a\nc", 1).does("⌫").sees("\nc", 0)
	inside().does("⌦").sees("a\nc", 1)
	inside().does("␗").sees("a\nc", 1).does("␗").sees("\nc", 0)
	inside().does("␕").sees("a\nc", 1)
	inside().does("z").sees("a\rz\nc", 3).does("⌫").sees("a\r\nc", 2)
	inside().does("⏎").sees("a\r\r\n\nc", 4)
	inside().does("␖\u0301").sees("a\r\u0301\nc", 3)
	inside().does("␛").sees("a\r\nc", 0).does("u").sees("a\rb\nc", 2)
	inside().does("\t␕").sees("a\r\nc", 2)
	// within a cluster
	load(t, "e\u0301x").does("i\u0302⌫").sees("e\u0301x", 0)
	load(t, "ex").does("a\u0301").at(2).does("⌫").sees("x", 0)
	load(t, "\U0001F1E6\U0001F1E7\U0001F1E8").does("a\U0001F1E9").sees("\U0001F1E6\U0001F1E7\U0001F1E9\U0001F1E8", 3).does("⌫").sees("\U0001F1E6\U0001F1E7\U0001F1E8", 2)
	load(t, "\U0001F1E7\U0001F1E8").does("i\U0001F1E6").at(1).does("⌫").sees("\U0001F1E7\U0001F1E8", 0)
}

// TestReplaceKeys, P1810.
func TestReplaceKeys(t *testing.T) {
	doesRows(t, usual, "abc\n\te\u0301\u0302x\n\nlast", []deedRow{
		{"Rx", "xbc\n\te\u0301\u0302x\n\nlast", 1}, {"Rxyz", "xyz\n\te\u0301\u0302x\n\nlast", 3}, {"Rwxyz", "wxyz\n\te\u0301\u0302x\n\nlast", 4}, {"jlRz", "abc\n\tzx\n\nlast", 6}, {"jlRzz", "abc\n\tzz\n\nlast", 7}, {"jjRz", "abc\n\te\u0301\u0302x\nz\nlast", 11}, {"R⏎", "\nabc\n\te\u0301\u0302x\n\nlast", 1}, {"Rx⏎y", "x\nyc\n\te\u0301\u0302x\n\nlast", 3}, {"R␖␛", "\x1bbc\n\te\u0301\u0302x\n\nlast", 1}, {"R␖x", "xbc\n\te\u0301\u0302x\n\nlast", 1}, {"Rxy⌫", "xyc\n\te\u0301\u0302x\n\nlast", 1}, {"Rxy⌦⌫", "xyc\n\te\u0301\u0302x\n\nlast", 0}, {"Rxy⌫z", "xzc\n\te\u0301\u0302x\n\nlast", 2}, {"j$R⌫", "abc\n\te\u0301\u0302x\n\nlast", 5}, {"j$R⌫q", "abc\n\tqx\n\nlast", 6}, {"G$Rxyz", "abc\n\te\u0301\u0302x\n\nlasxyz", 17},
		{"lR\u0301", "a\u0301c\n\te\u0301\u0302x\n\nlast", 2}, {"lR\u0301z", "a\u0301z\n\te\u0301\u0302x\n\nlast", 3}, {"R\t", "\tbc\n\te\u0301\u0302x\n\nlast", 1},
	})
	x := load(t, "ab\ncd").does("R").refuses(8, api.ErrNothing).refuses(127, api.ErrNothing).refuses(21, api.ErrKey).refuses(23, api.ErrKey).refuses(10, api.ErrKey).refuses(-5, api.ErrKey)
	x.does("␖").refuses(13, api.ErrKey).does("␖").refuses(10, api.ErrKey).does("␖").refuses(0xD800, api.ErrKey).mode(api.Replace)
	x.does("␛jR").refuses(8, api.ErrNothing).does("⏎").refuses(8, api.ErrNothing).does("x").sees("ab\n\nxd", 5)
	// in the tail, and behind the last sign
	load(t, "ab").does("$Rx⏎").at(3).refuses(8, api.ErrNothing).does("y").sees("ax\ny", 4)
	// within a cluster: what is left of it goes
	load(t, "\U0001F1E6\U0001F1E7\U0001F1E8x").does("R\U0001F1E9").sees("\U0001F1E9\U0001F1E8x", 1).does("q").sees("\U0001F1E9qx", 2)
	// one change: what is put takes the place of what goes, and a mark on it stays
	x = load(t, "abc").does("lma0Rxy").sees("xyc", 2).marked('a', 1).does("␛u").sees("abc", 0)
	usual.limited(3).load(t, []byte("abc")).does("R").refuses(0xE9, api.ErrFull).does("xyz").refuses('w', api.ErrFull).refuses(13, api.ErrFull).sees("xyz", 3)
}

// TestTypingEnds, P1811: where the cursor goes, and what the register holds.
func TestTypingEnds(t *testing.T) {
	doesRows(t, usual, "ab\n\te\u0301\n\nx", []deedRow{
		{"i␛", "ab\n\te\u0301\n\nx", 0}, {"a␛", "ab\n\te\u0301\n\nx", 0}, {"A␛", "ab\n\te\u0301\n\nx", 1}, {"jA␛", "ab\n\te\u0301\n\nx", 4}, {"jAe\u0301␛", "ab\n\te\u0301e\u0301\n\nx", 6}, {"jji␛", "ab\n\te\u0301\n\nx", 7}, {"ix⏎␛", "x\nab\n\te\u0301\n\nx", 2}, {"ix⏎y␛", "x\nyab\n\te\u0301\n\nx", 2}, {"GA⏎␛", "ab\n\te\u0301\n\nx\n", 8}, {"GA⏎⏎␛", "ab\n\te\u0301\n\nx\n\n", 10}, {"R␛", "ab\n\te\u0301\n\nx", 0},
	})
	load(t, "a").does("ix␛").holds('.', api.ByChars, "x").does("i␛").holds('.', api.ByChars, "x").does("a⏎b\t␛").holds('.', api.ByChars, "\nb\t")
	load(t, "ab cd").does("A x⌫␗⌦␕y⏎z␛").holds('.', api.ByChars, " xy\nz").sees("y\nz", 2)
	load(t, "a").does("i␖⌫␖␖␖␕␖␗␖⌦␛").empty('.').does("i␖␛␖\x00q␛").holds('.', api.ByChars, "\x1b\x00q")
	// what failed is none of it; a KeyCtrlV whose next key failed is none of it
	x := load(t, "").does("i").refuses(8, api.ErrNothing).does("a␖").refuses(13, api.ErrKey).does("b").refuses(-3, api.ErrKey).does("␛").holds('.', api.ByChars, "ab").does(".").sees("aabb", 2)
	x.does("Rz␛").holds('.', api.ByChars, "z").does("cwq␛").holds('.', api.ByChars, "q")
	load(t, "abc").does("cwx␛").holds('.', api.ByChars, "x").holds('-', api.ByChars, "abc")
	// the register does not turn what the unnamed one points to
	load(t, "abc").does("xiq␛p").sees("qabc", 1)
}

// TestTypingWithACount, P1811: the keys once more, each further time; for opened lines each behind a new one.
func TestTypingWithACount(t *testing.T) {
	doesRows(t, usual, "ab\ncd", []deedRow{
		{"3ix␛", "xxxab\ncd", 2}, {"3ax␛", "axxxb\ncd", 3}, {"2Ix y␛", "x yx yab\ncd", 5}, {"3Axy␛", "abxyxyxy\ncd", 7}, {"3ox␛", "ab\nx\nx\nx\ncd", 7}, {"3Ox␛", "x\nx\nx\nab\ncd", 0}, {"j2ox␛", "ab\ncd\nx\nx", 8}, {"j2Ox␛", "ab\nx\nx\ncd", 3}, {"2ox⏎y␛", "ab\nx\ny\nx\ny\ncd", 9}, {"2Ox⏎y␛", "x\nx\ny\ny\nab\ncd", 4}, {"3o␛", "ab\n\n\n\ncd", 5}, {"3O␛", "\n\n\nab\ncd", 0}, {"j3o␛", "ab\ncd\n\n\n", 7},
		{"2Rx␛", "xx\ncd", 1}, {"3Rxy␛", "xyxyxy\ncd", 5}, {"3i␛", "ab\ncd", 0}, {"2ix⏎␛", "x\nx\nab\ncd", 4}, {"$2i⌫x␛", "xb\ncd", 0}, {"1ix␛", "xab\ncd", 0}, {"2i␖␛␛", "\x1b\x1bab\ncd", 1}, {"2a\u0301␛", "a\u0301\u0301b\ncd", 0},
	})
	// the count of a change is its motion's
	doesRows(t, usual, "a b c d\n", []deedRow{{"2cwx␛", "x c d\n", 0}, {"c2wx␛", "x c d\n", 0}, {"3sx␛", "x c d\n", 0}})
	// the register holds the keys of one time; all of it is one undo
	for _, keys := range []string{"3ixy␛", "2oxy␛", "2Oxy␛", "9Axy␛", "2Rxy␛", "4axy␛", "3Ixy␛"} {
		load(t, "ab\ncd").does(keys).holds('.', api.ByChars, "xy").does("u").sees("ab\ncd", 0).refuses('u', api.ErrOldest).does("␒").refuses(api.KeyCtrlR, api.ErrNewest)
	}
}

// TestTypingBreaksOff, P1811: an error ends the playing and is what the escape answers; what was typed stays, and the typing ends.
func TestTypingBreaksOff(t *testing.T) {
	x := usual.limited(7).load(t, []byte("ab")).answers("3ixy␛", api.ErrFull).sees("xyxyxab", 4).mode(api.Normal).holds('.', api.ByChars, "xy").does("u").sees("ab", 0).refuses('u', api.ErrOldest)
	x.does("␒").sees("xyxyxab", 4)
	// the last change is kept all the same
	x = usual.limited(7).load(t, []byte("ab")).answers("3ixy␛", api.ErrFull).does("u1.").sees("xyab", 1)
	usual.limited(7).load(t, []byte("ab")).answers("3ox␛", api.ErrFull).sees("ab\nx\nx\n", 5).mode(api.Normal).does("u").sees("ab", 0)
	usual.limited(6).load(t, []byte("ab")).answers("4ox␛", api.ErrFull).sees("ab\nx\nx", 5).does("u").sees("ab", 0)
	usual.limited(4).load(t, []byte("ab")).answers("5O␛", api.ErrFull).sees("\n\nab", 0)
	// keys that can't be done a second time
	load(t, "ab cd").does("$").answers("2i⌫⌫⌫␛", api.ErrNothing).sees("d", 0).does("u").sees("ab cd", 4)
	load(t, "ab cd").does("l").answers("9i⌫␛", api.ErrNothing).sees("b cd", 0).mode(api.Normal)
	// too many keys; those of VOpen count too, its lines don't
	x = usual.limited(20000).load(t, []byte("x")).answers("5000ia␛", api.ErrSteps).mode(api.Normal)
	if n := len(x.m.See().Text); n != 1+1+api.MaxKeys {
		t.Errorf("%d", n)
	}
	x.does("u").sees("x", 0).does("4097ia␛u").answers("4098ia␛", api.ErrSteps).does("u9999o␛")
	if n := len(x.m.See().Text); n != 1+9999 {
		t.Errorf("%d", n)
	}
	// it breaks off behind a KeyCtrlV: that is given up
	usual.limited(20000).load(t, nil).does("2049i␖a␛")
	usual.limited(20000).load(t, nil).answers("2050i␖a␛", api.ErrSteps)
	x = usual.limited(20000).load(t, nil).answers("9999i␖ab␛", api.ErrSteps).mode(api.Normal)
	if s := x.m.See(); len(s.Text) != 2+1365*2 || len(s.Pending) > 0 {
		t.Errorf("%d, %v", len(s.Text), s.Pending)
	}
	x.does("hxi").seen(api.Sight{Mode: api.Insert, Anchor: -1, At: 2730, Percent: 100, Cell: 2730, Dirty: true})
}

// TestOneUndo, P1812: all from the command to its end, with all that was typed, taken away and typed again.
func TestOneUndo(t *testing.T) {
	for _, keys := range []string{"ix⏎y⌫⌫z␛", "ccx⏎⏎␛", "Ax␗␕y␛", "oab⏎␛", "Rxyz⏎q⌫␛", "c2wx␛", "2Ix⏎␛", "sxy␛", "vlcx␛", "Vcx⏎␛", "c/c⏎x␛"} {
		x := load(t, "ab cd\nef\n").does("l" + keys)
		behind := x.m.See()
		x.does("u").sees("ab cd\nef\n", 1)
		if x.m.See().Dirty {
			t.Errorf("%q: dirty behind the undo", keys)
		}
		x.refuses('u', api.ErrOldest).does("␒").sees(show(behind.Text), behind.At).refuses(api.KeyCtrlR, api.ErrNewest)
	}
	// nothing typed: no group
	load(t, "ab").does("i␛a␛A␛I␛R␛").refuses('u', api.ErrOldest)
	load(t, "ab").does("iab⌫⌫␛u").sees("ab", 0)
}
