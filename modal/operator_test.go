package modal_test

import (
	"testing"

	"copyist/api"
	"copyist/operate"
)

// deedRow is keys, and the text and the cursor behind them.
type deedRow struct {
	keys, text string
	at         int
}

func doesRows(t *testing.T, s setup, text string, rows []deedRow) {
	t.Helper()
	for _, r := range rows {
		x := s.load(t, []byte(text)).does(r.keys)
		if got := x.m.See(); show(got.Text) != r.text || got.At != r.at {
			t.Errorf("%q on %q: %q, At %d; want %q, %d", r.keys, text, show(got.Text), got.At, r.text, r.at)
		}
	}
}

// TestOperatorLines, P1806, 1: whole lines, as many as there are.
func TestOperatorLines(t *testing.T) {
	doesRows(t, usual, "ab\n cd\nEf", []deedRow{
		{"dd", " cd\nEf", 1}, {"2dd", "Ef", 0}, {"d2d", "Ef", 0}, {"9dd", "", 0}, {"jdd", "ab\nEf", 3}, {"Gdd", "ab\n cd", 4}, {"yy", "ab\n cd\nEf", 0}, {"l2yyP", "ab\n cd\nab\n cd\nEf", 0},
		{"ccx␛", "x\n cd\nEf", 0}, {"2ccx␛", "x\nEf", 0}, {"9Sx␛", "x", 0}, {"jSx␛", "ab\nx\nEf", 3}, {"Yp", "ab\nab\n cd\nEf", 3}, {"gUU", "AB\n cd\nEf", 0}, {"2gUgU", "AB\n CD\nEf", 0}, {"9g~~", "AB\n CD\neF", 0}, {"Gguu", "ab\n cd\nef", 7}, {"gugu", "ab\n cd\nEf", 0},
		{">>", "\tab\n cd\nEf", 1}, {"2>>", "\tab\n\t cd\nEf", 1}, {"9>>", "\tab\n\t cd\n\tEf", 1}, {"j<<", "ab\ncd\nEf", 3}, {"<<", "ab\n cd\nEf", 0},
	})
	load(t, "").fails("dd", api.ErrNothing).does("yy").holds('0', api.ByLines, "\n").does("ccx␛").sees("x", 0)
	load(t, "").does("gUU>>").sees("", 0)
}

// TestOperatorReach, P1806, 2 and 3: motions, with counts and arguments, registers and finds.
func TestOperatorReach(t *testing.T) {
	doesRows(t, usual, "one two  three\n(a b) x\nlast", []deedRow{
		{"dw", "two  three\n(a b) x\nlast", 0}, {"2dw", "three\n(a b) x\nlast", 0}, {"d2w", "three\n(a b) x\nlast", 0}, {"3dw", "\n(a b) x\nlast", 0}, {"2d2w", "a b) x\nlast", 0}, {"d3W", "\n(a b) x\nlast", 0}, {"wd$", "one \n(a b) x\nlast", 3}, {"wD", "one \n(a b) x\nlast", 3}, {"2D", "\nlast", 0}, {"w2x", "one o  three\n(a b) x\nlast", 4}, {"w2X", "ontwo  three\n(a b) x\nlast", 2}, {"99x", "\n(a b) x\nlast", 0},
		{"dt ", " two  three\n(a b) x\nlast", 0}, {"df ", "two  three\n(a b) x\nlast", 0}, {"2df ", " three\n(a b) x\nlast", 0}, {"$dFt", "one two  e\n(a b) x\nlast", 9}, {"$dTt", "one two  te\n(a b) x\nlast", 10}, {"dj", "last", 0}, {"Gdk", "one two  three", 0}, {"jd%", "one two  three\n x\nlast", 15}, {"dG", "", 0}, {"jdgg", "last", 0}, {"d_", "(a b) x\nlast", 0}, {"d}", "", 0}, {"jd50%", "one two  three\nlast", 15}, {"d100%", "", 0}, {"j$d0", "one two  three\nx\nlast", 15},
		{"de", " two  three\n(a b) x\nlast", 0}, {"wdb", "two  three\n(a b) x\nlast", 0}, {"wdge", "onwo  three\n(a b) x\nlast", 2},
		{"f d;", "one three\n(a b) x\nlast", 3}, {"f ;d,", "one  three\n(a b) x\nlast", 3},
	})
	load(t, "a b c d").does("f d;").sees("ac d", 1).does("d;").sees("ad", 1)
	load(t, "a b c d").does("f ;d,").sees("a c d", 1).refuses(',', api.ErrMove)
	load(t, "a b").fails("d;", api.ErrMove).fails("d,", api.ErrMove).fails("dfz", api.ErrMove).fails("dh", api.ErrMove).fails("dk", api.ErrMove).fails("d%", api.ErrMove).fails("d101%", api.ErrMove)
	load(t, "abc").does("\"ax").holds('a', api.ByChars, "a").does("\"Ax").holds('a', api.ByChars, "ab").holds('"', api.ByChars, "ab").empty('-')
	load(t, "abc\n").does("\"byw").holds('b', api.ByChars, "abc").does("\"_dd").sees("", 0).holds('"', api.ByChars, "abc")
	load(t, "abc\ndef\n").does("yw").holds('0', api.ByChars, "abc").does("d2l").holds('-', api.ByChars, "ab").does("dd").holds('1', api.ByLines, "c\n")
}

// TestOperatorFar, P1806, 4: searches, marks, the window.
func TestOperatorFar(t *testing.T) {
	text := "foo bar\nbaz foo\nend\n"
	doesRows(t, usual, text, []deedRow{
		{"d/b⏎", "bar\nbaz foo\nend\n", 0}, {"d2/b⏎", "\nbaz foo\nend\n", 0}, {"2d/ba⏎", "\nbaz foo\nend\n", 0}, {"$d?b⏎", "foo r\nbaz foo\nend\n", 4}, {"d/end⏎", "\nend\n", 0}, {"/b⏎dn", "foo \nbaz foo\nend\n", 3}, {"/b⏎dN", "foo \nbaz foo\nend\n", 3}, {"d*", "foo\nend\n", 0}, {"jwd#", "foo\nend\n", 0},
		{"jmaggd`a", "\nbaz foo\nend\n", 0}, {"jlmaggd'a", "end\n", 0}, {"jlmaggd`a", "az foo\nend\n", 0}, {"dL", "", 0}, {"jdH", "end\n", 0}, {"d2H", "end\n", 0}, {"GdM", "foo bar\n", 0}, {"d/$⏎", "\nbaz foo\nend\n", 0}, {"yL", text, 0}, {">L", "\tfoo bar\n\tbaz foo\n\tend\n", 1}, {"gU/z⏎", "FOO BAR\nBAz foo\nend\n", 0},
	})
	load(t, text).fails("dn", api.ErrEmpty).fails("dN", api.ErrEmpty).fails("d`z", api.ErrMark).fails("d'z", api.ErrMark)
	// what was sought stays, where the span or the desk is refused too
	load(t, "a\nb").answers("d/zz⏎", api.ErrMatch).holds('/', api.ByChars, "zz").refuses('n', api.ErrMatch)
	load(t, "ab ab").answers("\"!d*", api.ErrReg).holds('/', api.ByChars, `\<ab\>`).sees("ab ab", 0).does("n").at(3)
	load(t, "ab ab").answers("\"!d/b⏎", api.ErrReg).holds('/', api.ByChars, "b").sees("ab ab", 0).mode(api.Normal).does("n").at(1)
	// an empty span: from a line's end to the next line's beginning
	load(t, "\nb").answers("d/b⏎", api.ErrNothing).holds('/', api.ByChars, "b")
	load(t, "ab").answers("d/a⏎", api.ErrNothing)
}

// TestOperatorObjects, P1806, 5.
func TestOperatorObjects(t *testing.T) {
	doesRows(t, usual, "a (b [c] \"d e\") f\n\ng h\n", []deedRow{
		{"diw", " (b [c] \"d e\") f\n\ng h\n", 0}, {"daw", "(b [c] \"d e\") f\n\ng h\n", 0}, {"3daw", "[c] \"d e\") f\n\ng h\n", 0}, {"6ldib", "a () f\n\ng h\n", 3}, {"6ldab", "a  f\n\ng h\n", 2}, {"6ldi]", "a (b [] \"d e\") f\n\ng h\n", 6}, {"di\"", "a (b [c] \"\") f\n\ng h\n", 10}, {"da\"", "a (b [c]) f\n\ng h\n", 8}, {"dip", "\ng h\n", 0}, {"dap", "g h\n", 0}, {"yip", "a (b [c] \"d e\") f\n\ng h\n", 0}, {"gUiW", "A (b [c] \"d e\") f\n\ng h\n", 0}, {">ap", "\ta (b [c] \"d e\") f\n\ng h\n", 1}, {"ciwx␛", "x (b [c] \"d e\") f\n\ng h\n", 0}, {"ci\"␛", "a (b [c] \"\") f\n\ng h\n", 9},
	})
	x := load(t, "a (b [c] \"d e\") f\n\ng h\n")
	x.does("6l").fails("2di(", api.ErrObject).fails("diB", api.ErrObject).fails("di<", api.ErrObject).does("di\"").sees("a (b [c] \"\") f\n\ng h\n", 10).fails("di\"", api.ErrNothing).does("ci\"x␛").sees("a (b [c] \"x\") f\n\ng h\n", 10)
	load(t, "ab cd\n\n").does("yipp").sees("ab cd\nab cd\n\n", 6).does("dap").sees("", 0)
	load(t, "").fails("diw", api.ErrObject).fails("dap", api.ErrObject).fails("ciw", api.ErrObject)
}

// TestOperatorRefused, P1806: by the desk; nothing has changed.
func TestOperatorRefused(t *testing.T) {
	for _, c := range []row{
		{"\"!dw", 0, api.ErrReg}, {"\":dw", 0, api.ErrRead}, {"\"/yy", 0, api.ErrRead}, {"\".yw", 0, api.ErrRead}, {"\"!cw", 0, api.ErrReg}, {"\".cc", 0, api.ErrRead}, {"\"!S", 0, api.ErrReg}, {"\":s", 0, api.ErrRead},
	} {
		load(t, "ab cd\n").does("w").fails(c.keys, c.err).mode(api.Normal)
	}
	usual.limited(7).load(t, []byte("ab\ncd\n")).does(">>").fails(">>", api.ErrFull).fails("j>>", api.ErrFull)
	x := load(t, "ab\n")
	x.both(func(d *operate.Desk) { d.Bank.Set('a', make([]int, api.MaxReg)) })
	x.fails("\"Ayy", api.ErrLong).fails("\"Adw", api.ErrLong).fails("\"Acw", api.ErrLong).mode(api.Normal)
}

// TestChangeWord, P1806, 2: on a letter the blanks behind the word stay, on a blank they go.
func TestChangeWord(t *testing.T) {
	doesRows(t, usual, "one  two, x\n", []deedRow{
		{"cwZ␛", "Z  two, x\n", 0}, {"lcwZ␛", "oZ  two, x\n", 1}, {"3lcwZ␛", "oneZtwo, x\n", 3}, {"2cwZ␛", "Z, x\n", 0}, {"wcWZ␛", "one  Z x\n", 5}, {"wcwZ␛", "one  Z, x\n", 5}, {"8lcwZ␛", "one  twoZ x\n", 8}, {"3lcWZ␛", "oneZtwo, x\n", 3}, {"$cwZ␛", "one  two, Z\n", 10}, {"4l2cwZ␛", "one Z, x\n", 4},
	})
	load(t, "a\n\nb\n").does("jcwZ␛").sees("a\nZ\nb\n", 2)
	load(t, "a\n\nb\n").fails("jdw", api.ErrNothing)
	load(t, "e\u0301 x\n").does("cwZ␛").sees("Z x\n", 0)
	load(t, " \u0301a b\n").does("cwZ␛").sees("Za b\n", 0)
	load(t, "ab cd").does("w\"acwZ␛").holds('a', api.ByChars, "cd").does("u").sees("ab cd", 3)
}

// TestChangeBegins, P1806: the group begins ahead of the change, with the cursor that there was.
func TestChangeBegins(t *testing.T) {
	load(t, "ab cd ef").does("$cbZ␛").sees("ab cd Zf", 6).does("u").sees("ab cd ef", 7).does("␒").sees("ab cd Zf", 6)
	load(t, "ab\ncd\nef\n").does("j$ckZ␛").sees("Z\nef\n", 0).does("u").sees("ab\ncd\nef\n", 4)
	load(t, "ab cd").does("$c0␛").sees("d", 0).does("u").sees("ab cd", 4)
	load(t, "ab cd").does("c/c⏎").mode(api.Insert).sees("cd", 0).does("X␛").sees("Xcd", 0).does("u").sees("ab cd", 0)
	// an empty span asks no register
	load(t, "a()").does("l\"!ci(x␛").sees("a(x)", 2)
}
