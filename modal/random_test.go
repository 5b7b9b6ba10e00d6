package modal_test

import (
	"math/rand"
	"strconv"
	"strings"
	"testing"

	"copyist/api"
	"copyist/operate"
)

type picker struct{ *rand.Rand }

func (r picker) pick(list ...string) string { return list[r.Intn(len(list))] }

func (r picker) count() string {
	switch r.Intn(8) {
	case 0:
		return "2"
	case 1:
		return r.pick("1", "3", "4", "5", "12", "99", "9999")
	}
	return ""
}

func (r picker) register() string {
	return r.pick("", "", "", "", "", "\"a", "\"b", "\"A", "\"_", "\"1", "\"-", "\".", "\"/", "\":", "\"!", "\"x")
}

func (r picker) letter() string { return r.pick("a", "b", "c", " ", "(", "é", "x", "\t") }

func (r picker) pattern() string {
	return r.pick("a", "b", "c", "a", "b", "^", "$", "x*", ".", "", "", "\\<", "[", "a\\|b", "\\w\\+", "zz", "^$", "A", " ")
}

func (r picker) motion() string {
	switch r.Intn(9) {
	case 0:
		return r.pick("f", "F", "t", "T") + r.letter()
	case 1:
		return r.pick(";", ",", ";", ",", "n", "N", "n", "N", "*", "#")
	case 2:
		return r.pick("/", "?") + r.pattern() + r.pick("⏎", "⏎", "⏎", "⏎", "␛", "⌫⌫⌫⌫⌫⌫⌫⌫")
	case 3:
		return r.pick("`", "'") + r.pick("a", "b", "'", "`", "<", ">", "z", "!")
	case 4:
		return r.pick("H", "M", "L", "G", "gg", "%", "}", "{")
	}
	return r.pick("h", "l", "0", "^", "$", "|", "j", "k", "j", "k", "l", "+", "-", "_", "⏎", " ", "⌫", "w", "b", "e", "ge", "W", "B", "E", "gE")
}

func (r picker) object() string {
	return r.pick("i", "a") + r.pick("w", "W", "\"", "'", "(", ")", "b", "[", "{", "B", "<", "p", "p", "w")
}

func (r picker) operator() string {
	op := r.pick("d", "d", "c", "c", "y", ">", "<", "gU", "gu", "g~")
	keys := r.count() + r.register() + op + r.count()
	switch r.Intn(5) {
	case 0:
		keys += op[len(op)-1:]
	case 1:
		keys += r.object()
	default:
		keys += r.motion()
	}
	if op == "c" {
		keys += r.typed()
	}
	return keys
}

func (r picker) typed() string {
	s := ""
	for range r.Intn(5) {
		s += r.pick("a", "b", "x", " ", "⏎", "⏎", "⌫", "⌦", "␗", "␕", "␖x", "␖␛", "␖⏎", "␖␊", "␖⌫", "␊", "é", "\u0301", "\u20ac", "\t", "\x01", "word", "␒")
	}
	return s + r.pick("␛", "␛", "␛", "␛", "␛", "␛", "")
}

func (r picker) line() string {
	return r.pick("d", "d", "2d", "%s/a/b/", "s/b/ca/g", "s//x/", "&", "1", "$", "/a/", "?b?d", "u", "red", "m0", "t.", "pu", "pu a", "g/a/s//bb/", "v/a/d", "k a", "1,2j", ">", "%<", "set ic", "set noic", "set nows", "set ws", "set br=crlf", "set br=lf", "set br=cr", "w", "w! x", "q", "e y", "2r x", "x", "zz", "9d", "", "/[/", ".,.+1d", "pu :", "pu .", "'<,'>d", "y b 2", "j!")
}

func (r picker) command() string {
	switch r.Intn(14) {
	case 0, 1, 2:
		return r.count() + r.motion()
	case 3, 4:
		return r.operator()
	case 5:
		return r.count() + r.pick("i", "a", "I", "A", "o", "O", "R", "R", "o") + r.typed()
	case 6:
		return r.count() + r.register() + r.pick("x", "X", "D", "Y", "p", "P", "p", "P", "J", "gJ", "~", "~", "ra", "r⏎", "ré", "r␊", "r\u20ac", "r\u0301", "s"+r.typed(), "S"+r.typed(), "C"+r.typed())
	case 7:
		return r.count() + r.pick("u", "u", "␒", ".", ".", ".", ".", "&", "ma", "mb", "m`", "m!", "m<", "m>", "gv", "gv", "ZZ", "ZQ")
	case 8:
		return r.pick("v", "V") + r.selected()
	case 9:
		return r.count() + ":" + r.line() + r.pick("⏎", "⏎", "⏎", "⏎", "␛", "␗⏎", "␕"+r.line()+"⏎", "⌫⏎")
	case 10:
		return r.pick("qa", "qb", "qA", "qB", "q", "q", "q", "1qa", "q!", "\"aqb")
	case 11:
		return r.count() + r.pick("@a", "@a", "@b", "@@", "@B", "@0", "@\"", "@!", "@1", "@-")
	case 12:
		return r.count() + r.pick("␆", "␂", "␄", "␕", "␅", "␙", "zt", "zz", "zb")
	}
	return r.pick("␊", "Q", "Zx", "d␛", "3␛", "\"a␛", "g␛", "␛", "d\"", "\x00", "␛␛", "5", "\"b", "f␊", "f␛", "gx")
}

func (r picker) selected() string {
	s := ""
	for range r.Intn(4) {
		switch r.Intn(6) {
		case 0:
			s += r.count() + r.object()
		case 1:
			s += r.pick("o", "o", "v", "V", "ma", "zt", "␅", "␛", "qa", "q", "@a", "D", "O", "gv")
		default:
			s += r.count() + r.motion()
		}
	}
	return s + r.count() + r.register() + r.pick("d", "x", "c"+r.typed(), "s"+r.typed(), "y", ">", "<", "U", "gU", "u", "gu", "~", "g~", "J", "gJ", "p", "P", "p", "ra", "ré", "r⏎", "r\u0301", "r␊", "o", "␛", "␛", "v", "V", ":"+r.line()+"⏎", ":␕"+r.line()+"⏎")
}

// registers gives both machines texts to put and to play.
func (r picker) registers(x *pair) {
	texts := []string{"x", "dw", "q\n", "x\ny\r\n", "\n", "j.", "ia\x1b", "p\r", "l@b", "A!\x1bj", ":d\n", "w@@", "3x", "\u20ac", "v", "i", "/a\nx", "cwb\x1bw", "2.u"}
	for _, name := range []int{'a', 'b', 0} {
		kind, text := r.Intn(2), texts[r.Intn(len(texts))]
		x.both(func(d *operate.Desk) { d.Bank.Yank(name, api.Reg{Kind: kind, Text: spell(text)}) })
	}
}

// TestRandom, P1801 to P1819: keys of all kinds on texts of all kinds, held against the plain reading behind every key.
func TestRandom(t *testing.T) {
	random := picker{rand.New(rand.NewSource(1801))}
	parts := []string{"a", "b", "c", "ab", " ", "  ", "\t", "\n", "\n", "\n", "\r", "\r\n", "e\u0301", "A", "a b\n", "(a)", "\"b c\"", ",", "\n\n", "é", "foo bar", "{\n", "}", "\U0001F1E6\U0001F1E7", "\u0301"}
	good, all := 0, 0
	for range 5000 {
		text := ""
		for range random.Intn(16) {
			text += random.pick(parts...)
		}
		s := usual
		s.enc = encodings[random.Intn(len(encodings))]
		if s.enc == api.Latin1 {
			text = strings.Map(func(r rune) rune {
				if r > 255 {
					return -1
				}
				return r
			}, text)
		}
		b := bytesOf(t, s.enc, spell(text))
		s.native, s.height, s.depth = natives[random.Intn(3)], 1+random.Intn(6), 1+random.Intn(6)
		s.limit = 400
		if random.Intn(4) == 0 {
			s.limit = len(b) + random.Intn(6)
		}
		x := s.load(t, b)
		random.registers(x)
		for range 2 + random.Intn(12) {
			for _, k := range strokes(random.command()) {
				all++
				if _, err := x.key(k); err == api.OK {
					good++
				}
			}
			if random.Intn(12) == 0 {
				x.bringsAny(random.Intn(5)-1, spell(random.pick("", "a", "a\n", "\nb", "\r", "\n", "x\r\ny", "\u20ac")))
			}
		}
		x.samePast()
	}
	if good*10 < all*8 {
		t.Errorf("only %d keys of %d were good", good, all)
	}
}

// bringsAny brings text of which nothing is known.
func (x *pair) bringsAny(line int, text []int) {
	x.t.Helper()
	ahead := x.state()
	err, want := x.m.Bring(line, text), x.p.Bring(line, text)
	got, model := x.state(), stateOf(x.p.See(), x.p.d)
	if err != want || !got.equal(model) {
		x.t.Fatalf("Bring(%d, %q) on %q: %d, want %d\n got %+v\nwant %+v", line, show(text), show(ahead.Text), err, want, got, model)
	}
}

// samePast holds against one another what undo and redo lead to.
func (x *pair) samePast() {
	x.t.Helper()
	x.keys("␛␛␛")
	for _, key := range []int{'u', api.KeyCtrlR} {
		for range 60 {
			if _, err := x.key(key); err != api.OK {
				break
			}
		}
	}
}

// TestRandomKeys, P1803: any ints at all, in no order.
func TestRandomKeys(t *testing.T) {
	random := picker{rand.New(rand.NewSource(1803))}
	odd := []int{-1, -7, -256, -257, -1 << 62, 1 << 62, 0xD7FF, 0xD800, 0xDFFF, 0xE000, 0x10FFFF, 0x110000, 0, 10, 127, 128, 0x301}
	for range 600 {
		x := usual.high(1+random.Intn(4)).load(t, []byte(random.pick("", "a", "ab\ncd\n", "a\r\n\r\nb", "foo (bar)\n\n x\n", "e\u0301e\u0301\n")))
		random.registers(x)
		for range 60 {
			k := random.Intn(128)
			if random.Intn(10) == 0 {
				k = odd[random.Intn(len(odd))]
			}
			x.key(k)
		}
	}
}

// TestRandomTyping, P1808 to P1811: text that is typed with all keys of its modes, on texts full of breaks, in each native break.
func TestRandomTyping(t *testing.T) {
	random := picker{rand.New(rand.NewSource(1809))}
	for range 4000 {
		text := ""
		for range random.Intn(8) {
			text += random.pick("\r", "\n", "\r\n", "a", "b ", "e\u0301", "\r\r", "\n\r")
		}
		s := usual.broken(natives[random.Intn(3)]).high(1 + random.Intn(3))
		if random.Intn(3) == 0 {
			s.limit = len(text) + random.Intn(8)
		}
		x := s.load(t, []byte(text))
		for range 3 {
			x.keys(strings.Repeat(random.pick("l", "j", "w", "k"), random.Intn(4)))
			x.keys(random.pick("", "", "2", "3", "5") + random.pick("i", "a", "I", "A", "o", "O", "R", "R", "cc", "cw", "s", "C", "c$", "S"))
			for range random.Intn(12) {
				x.keys(random.pick("⏎", "⌫", "⌫", "⌦", "␗", "␕", "x", "y ", "\u0301", "␖\u0301", "␖␛", "␖⏎", "␖\x00", "\t", "␊", "␂"))
			}
			x.keys("␛" + random.pick("", ".", "2.", "u", "..", "u.", "␒"))
		}
		x.samePast()
	}
}

// TestRandomScrolling, P1819: windows of all heights over texts of some lines.
func TestRandomScrolling(t *testing.T) {
	random := picker{rand.New(rand.NewSource(1819))}
	for range 300 {
		text := ""
		for i := range random.Intn(14) {
			text += strings.Repeat("ab ", i%5) + strconv.Itoa(i) + random.pick("\n", "\n", "\r\n", "\n\n")
		}
		x := usual.high([]int{1, 2, 3, 4, 5, 20, 200}[random.Intn(7)]).load(t, []byte(text))
		for range 40 {
			x.keys(random.count() + random.pick("␆", "␂", "␄", "␕", "␅", "␙", "zt", "zz", "zb", "j", "k", "G", "gg", "H", "M", "L", "$", "3|", "dd", "u", "v", "V", "␛", "p"))
		}
	}
}

// TestRandomPlaying, P1816 to P1818: recordings that play one another, dots within them.
func TestRandomPlaying(t *testing.T) {
	random := picker{rand.New(rand.NewSource(1817))}
	done := 0
	for range 1500 {
		x := usual.high(3).limited(300).load(t, []byte(random.pick("a b c\nd e f\n", "a\nb\nc\n", "foo bar foo\r\nbar foo\r\n", "aXbXc", "x\n\n\ny\n")))
		for range 3 {
			x.keys("q" + random.pick("a", "b", "A", "B", "c"))
			for range random.Intn(4) {
				x.keys(random.pick("x", "dw", ".", "2.", "A!␛", "2ix␛", "oy␛", "cwz␛", "j", "w", "/b⏎", "d/o⏎", "@a", "@b", "@@", "2@c", "p", "yy", "u", "vly", "vj", "~", "J", ":s/a/b/⏎", ":w⏎", "ZZ", "i", "␖", "q", "\x01", "3", "\"a"))
			}
			x.keys("␛␛" + random.pick("q", "q", "q", "q", "1qq"))
			x.keys(random.count() + random.pick("@a", "@b", "@@", "@c", ".", "@\"", "@A") + "␛")
			done++
		}
		x.keys("␛q")
		x.samePast()
	}
	if done != 4500 {
		t.Errorf("%d", done)
	}
}
