package copyist_test

import (
	"fmt"
	"math/rand"
	"slices"
	"strings"
	"testing"
	"unicode/utf16"
	"unicode/utf8"

	"copyist/api"
	"copyist/cluster"
	"copyist/codec"
	"copyist/copyist"
)

// solo is an editor alone.
type solo struct {
	t *testing.T
	e *copyist.Editor
}

func alone(t *testing.T, s api.Setup) solo {
	t.Helper()
	e, err := copyist.New(s)
	if err != api.OK {
		t.Fatalf("New: %d", err)
	}
	return solo{t, e}
}

func (x solo) keys(s string) api.Answer { return x.e.Do(typed(s)) }

func (x solo) see() api.Answer { return x.e.Do(seen) }

func (x solo) file(name string) string {
	x.t.Helper()
	a := x.e.Do(looked(name))
	if a.Err != api.OK {
		x.t.Fatalf("the file %s: %d", name, a.Err)
	}
	return string(a.Data)
}

// regs are all registers that hold anything.
func (x solo) regs() string {
	s := ""
	for _, name := range allRegisters {
		if a := x.e.Do(api.Step{Kind: api.StepReg, N: name}); a.Err == api.OK {
			s += fmt.Sprintf("%c%d%v ", rune(name), a.Reg.Kind, a.Reg.Text)
		}
	}
	return s
}

// anyBytes are bytes of all kinds: well-formed and broken, in all encodings.
func anyBytes(r *rand.Rand, most int) string {
	n := r.Intn(most + 1)
	b := []byte(picker{r}.pick("", "", "", mark8, mark16, mark61))
	for len(b) < n {
		switch r.Intn(5) {
		case 0:
			b = append(b, byte(r.Intn(256)))
		case 1:
			b = utf8.AppendRune(b, rune(r.Intn(0x3000)))
		case 2:
			b = append(b, picker{r}.pick("\r", "\n", "\r\n", "\x00", "\xC0\x80", "\xED\xA0\x80", "\x00\xD8", "\xD8\x00", "\xF4\x90", "\xE2\x82", "\uFEFF")...)
		case 3:
			u := uint16(r.Intn(0x10000))
			b = append(b, byte(u), byte(u>>8))
		default:
			b = append(b, "some words\n"[:1+r.Intn(11)]...)
		}
	}
	return string(b)
}

// standard decodes bytes by the library, if they are well-formed.
func standard(enc int, b string) ([]int, bool) {
	atoms := []int{}
	switch enc {
	case api.UTF8:
		for _, r := range b {
			atoms = append(atoms, int(r))
		}
		return atoms, utf8.ValidString(b)
	case api.Latin1:
		for _, c := range []byte(b) {
			atoms = append(atoms, int(c))
		}
		return atoms, true
	}
	units := []uint16{}
	for i := 0; i+1 < len(b); i += 2 {
		low, high := b[i], b[i+1]
		if enc == api.UTF16BE {
			low, high = high, low
		}
		units = append(units, uint16(low)|uint16(high)<<8)
	}
	for _, r := range utf16.Decode(units) {
		atoms = append(atoms, int(r))
	}
	return atoms, len(b)%2 == 0 && slices.Equal(utf16.Encode(utf16.Decode(units)), units)
}

// TestUntouched, W1: all bytes under each encoding are loaded, and saved as they were; on a disk with room for them twice and for one more file.
func TestUntouched(t *testing.T) {
	r := rand.New(rand.NewSource(1))
	texts := []string{"", mark8, mark16, mark61, mark8 + mark8, "\x00", "\xFF", "\r", "\r\n", letters(65536), mark8 + letters(65536), mark16 + letters(65536), strings.Repeat("\r", 65536), strings.Repeat("\xE9", 65535)}
	for i := range 256 {
		texts = append(texts, string([]byte{byte(i)}), string([]byte{byte(i), 10}), string([]byte{0xD8, byte(i)}))
	}
	for range 400 {
		texts = append(texts, anyBytes(r, 60))
	}
	for range 12 {
		texts = append(texts, anyBytes(r, 65000))
	}
	formed := 0
	for _, b := range texts {
		for _, enc := range append([]int{api.Auto}, encodings...) {
			s := in(enc, usual("a", "a", b))
			for i := range 14 {
				s.Files = append(s.Files, api.File{Name: "f" + string(rune('a'+i))})
			}
			s.Space = 2 * len(b)
			if enc == api.Latin1 && len(b) > 65536 { // no mark there
				continue
			}
			if enc != api.Auto && len(b) > 65536 && len(codec.Mark(enc)) != 0 && !strings.HasPrefix(b, string(codec.Mark(enc))) {
				continue
			}
			x := alone(t, s)
			a := x.see()
			back, _, err := codec.Encode(a.Enc, a.Sight.Text)
			if err != api.OK || string(back) != b[a.Mark:] || a.Sight.Dirty || enc != api.Auto && a.Enc != enc {
				t.Fatalf("%.40q in %d: %d, loaded as %d with the mark %d", b, enc, err, a.Enc, a.Mark)
			}
			if atoms, ok := standard(a.Enc, b[a.Mark:]); ok {
				formed++
				if !slices.Equal(atoms, a.Sight.Text) {
					t.Fatalf("%.40q in %d: not what the standard says", b, a.Enc)
				}
			}
			if a := x.keys([]string{":w⏎", ":wq⏎", ":w a⏎", ":w!⏎", ":x a⏎"}[r.Intn(5)]); a.Err != api.OK {
				t.Fatalf("%.40q in %d: saved: %d", b, enc, a.Err)
			}
			if got := x.file("a"); got != b {
				t.Fatalf("%.40q in %d: saved as %.40q", b, enc, got)
			}
		}
	}
	if formed < 500 {
		t.Errorf("only %d were well-formed", formed)
	}
}

// edits are commands that change texts in all kinds of ways, and ask for no file.
var edits = []string{
	"x", "3x", "X", "D", "dd", "2dd", "dw", "db", "d$", "p", "P", "yyp", "ylP", "J", "gJ", "3J", "~", "5~", "g~~", "gUU", ">>", "<<", "rx", "r⏎", "iab␛", "a é␛", "A!␛", "I?␛", "onew␛", "Onew⏎line␛", "Rover␛", "cwz␛", "ccz␛", "s␛", "3ix␛", ".", ".", "2.",
	":s/a/b/⏎", ":%s/o/<&>/g⏎", ":d⏎", ":m0⏎", ":t.⏎", ":j⏎", ":g/a/s//bb/⏎", ":>⏎", ":pu⏎", ":v/x/m0⏎", "vly", "vld", "Vd", "vjp", "vUu", "qaxjq", "@a", "u", "␒", "2u", "&", "dap", "daw", "di(", "\"ayy", "\"ap", "yiw", "viwp", "i⌫⌫␛", "A⏎␛", "a␖\u0301␛", "a\u0301␛",
	"j", "k", "w", "b", "$", "0", "G", "gg", "}", "/a⏎", "n", "fo", "l", "h", "ma", "`a", "v␛", "gv␛",
}

// quiet gives keys, one command behind the other, whatever comes of each.
func (x solo) quiet(r *rand.Rand, n int) {
	for range n {
		x.keys(edits[r.Intn(len(edits))])
		x.keys("␛␛")
	}
}

// TestFaithful, W3: what a save writes is the mark and the bytes of the atoms; those with tags are the loaded ones.
func TestFaithful(t *testing.T) {
	for seed := range int64(1200) {
		r := rand.New(rand.NewSource(seed))
		b := anyBytes(r, 80)
		s := in(r.Intn(5), usual("a", "a", b))
		s.Native = 1 + r.Intn(3)
		x := alone(t, s)
		first := x.see()
		loaded := b[first.Mark:]
		x.quiet(r, 12)
		if a := x.keys(":w⏎"); a.Err != api.OK {
			t.Fatalf("seed %d: %d", seed, a.Err)
		}
		now := x.see()
		got := x.file("a")
		if got[:first.Mark] != b[:first.Mark] {
			t.Fatalf("seed %d: the mark is %q", seed, got[:first.Mark])
		}
		rest := got[first.Mark:]
		for i, atom := range now.Sight.Text {
			size := codec.Size(now.Enc, atom)
			if tag := now.Sight.Tags[i]; tag >= 0 && rest[:size] != loaded[tag:tag+size] {
				t.Fatalf("seed %d: the atom %d with the tag %d is %q, was %q", seed, i, tag, rest[:size], loaded[tag:tag+size])
			}
			own, _, err := codec.Encode(now.Enc, []int{atom})
			if err != api.OK || rest[:size] != string(own) {
				t.Fatalf("seed %d: the atom %d is %q", seed, i, rest[:size])
			}
			rest = rest[size:]
		}
		if rest != "" {
			t.Fatalf("seed %d: %q is left", seed, rest)
		}
		if _, ok := standard(now.Enc, loaded); !ok {
			continue
		}
		// well-formed: it stays so, and is the same text when it is loaded again
		if _, ok := standard(now.Enc, got[first.Mark:]); !ok {
			t.Fatalf("seed %d: %q was well-formed, %q isn't", seed, loaded, got)
		}
		if len(now.Sight.Text) > 0 && now.Sight.Text[0] == 0xFEFF && first.Mark == 0 {
			continue
		}
		again := alone(t, in(now.Enc, usual("a", "a", got))).see()
		if !slices.Equal(again.Sight.Text, now.Sight.Text) {
			t.Fatalf("seed %d: loaded again: %v, was %v", seed, again.Sight.Text, now.Sight.Text)
		}
	}
}

// TestUndone, W5: undo leads back to the loaded file, byte for byte and tag for tag; redo to the last state.
func TestUndone(t *testing.T) {
	for seed := range int64(1200) {
		r := rand.New(rand.NewSource(seed))
		b := anyBytes(r, 60)
		x := alone(t, in(r.Intn(5), usual("a", "a", b)))
		first := x.see()
		x.quiet(r, 15)
		last := x.see()
		undone := 0
		for x.keys("u").Err == api.OK {
			undone++
		}
		back := x.see()
		if !slices.Equal(back.Sight.Text, first.Sight.Text) || !slices.Equal(back.Sight.Tags, first.Sight.Tags) || back.Sight.Dirty {
			t.Fatalf("seed %d: undone: %+v, was %+v", seed, back.Sight, first.Sight)
		}
		if a := x.keys(":w⏎"); a.Err != api.OK || x.file("a") != b {
			t.Fatalf("seed %d: %d, undone and saved: %q, was %q", seed, a.Err, x.file("a"), b)
		}
		for range undone {
			if a := x.keys("␒"); a.Err != api.OK {
				t.Fatalf("seed %d: %d", seed, a.Err)
			}
		}
		if now := x.see().Sight; !slices.Equal(now.Text, last.Sight.Text) || !slices.Equal(now.Tags, last.Sight.Tags) {
			t.Fatalf("seed %d: done again: %+v, was %+v", seed, now, last.Sight)
		}
	}
}

// rowsOf cuts atoms into lines: where each begins, where its content ends, where it ends.
func rowsOf(text []int) [][3]int {
	rows := [][3]int{}
	from := 0
	for i := 0; i < len(text); i++ {
		to := i
		switch {
		case text[i] == 13 && i+1 < len(text) && text[i+1] == 10:
			i++
		case text[i] != 10 && text[i] != 13:
			continue
		}
		rows = append(rows, [3]int{from, to, i + 1})
		from = i + 1
	}
	if from < len(text) || len(text) == 0 {
		rows = append(rows, [3]int{from, len(text), len(text)})
	}
	return rows
}

// rowAt is the line of an offset, and the cluster boundaries of its content.
func rowAt(s api.Sight) ([3]int, []int) {
	for _, row := range rowsOf(s.Text) {
		if s.At >= row[0] && (s.At < row[2] || s.At == row[1] && row[1] == row[2]) {
			bounds := cluster.Breaks(s.Text[row[0]:row[1]])
			for i := range bounds {
				bounds[i] += row[0]
			}
			return row, bounds
		}
	}
	return [3]int{-1, -1, -1}, nil
}

// onCluster tells whether the cursor is where a cluster of a line begins, or on an empty line.
func onCluster(s api.Sight) bool {
	row, bounds := rowAt(s)
	if row[0] == row[1] {
		return s.At == row[0]
	}
	return s.At < row[1] && slices.Contains(bounds, s.At)
}

// TestOnClusters, W6: outside of typing the cursor is on a cluster; l, h and x count clusters.
func TestOnClusters(t *testing.T) {
	for seed := range int64(800) {
		r := rand.New(rand.NewSource(seed))
		x := alone(t, in(r.Intn(5), usual("a", "a", anyBytes(r, 60)+picker{r}.pick("", "e\u0301e\u0301\U0001F1E6\U0001F1E7\U0001F1E6", "\u1100\u1161"))))
		for range 25 {
			for _, k := range strokes(edits[r.Intn(len(edits))]) {
				x.e.Do(api.Step{Kind: api.StepKey, N: k})
				if s := x.see().Sight; s.Mode != api.Insert && s.Mode != api.Replace && !onCluster(s) {
					t.Fatalf("seed %d: behind the key %d At %d is no cluster of %v", seed, k, s.At, s.Text)
				}
			}
			x.keys("␛␛")
			counts(t, x, r, seed)
		}
	}
}

// counts goes some clusters to a side, or takes some away.
func counts(t *testing.T, x solo, r *rand.Rand, seed int64) {
	t.Helper()
	s := x.see().Sight
	row, bounds := rowAt(s)
	if row[0] == row[1] {
		return
	}
	bounds = bounds[:len(bounds)-1]
	column, n := slices.Index(bounds, s.At), 1+r.Intn(4)
	switch r.Intn(3) {
	case 0:
		x.keys(fmt.Sprint(n, "l"))
		if now := x.see().Sight.At; now != bounds[min(column+n, len(bounds)-1)] {
			t.Fatalf("seed %d: %dl from %d: %d", seed, n, s.At, now)
		}
	case 1:
		x.keys(fmt.Sprint(n, "h"))
		if now := x.see().Sight.At; now != bounds[max(column-n, 0)] {
			t.Fatalf("seed %d: %dh from %d: %d", seed, n, s.At, now)
		}
	case 2:
		to := row[1]
		if column+n < len(bounds) {
			to = bounds[column+n]
		}
		x.keys(fmt.Sprint(n, "x"))
		if now := x.see().Sight; !slices.Equal(now.Text, slices.Concat(s.Text[:s.At], s.Text[to:])) {
			t.Fatalf("seed %d: %dx at %d: %v, was %v", seed, n, s.At, now.Text, s.Text)
		}
	}
}

// TestLocal, W7: what works within a line leaves every byte outside of it as it was.
func TestLocal(t *testing.T) {
	within := []string{"x", "3x", "X", "D", "dw", "db", "d$", "~", "9~", "g~~", "gUU", "rx", "iab␛", "a b␛", "A!␛", "I?␛", "Rover␛", "ciwz␛", "ccz␛", "Cz␛", "s!␛", ">>", "<<", ":s/./<&>/g⏎", "dfa", "dtb", "ylp", "yl3P", "viwp", "di(", "d0", "c^q␛", "vrz", ".", "vU", "a␖\u0301␛"}
	for seed := range int64(1500) {
		r := rand.New(rand.NewSource(seed))
		b := anyBytes(r, 90)
		x := alone(t, in(r.Intn(5), usual("a", "a", b)))
		x.keys(picker{r}.pick("", "j", "2j", "G", "w", "jl", "G$"))
		for range 3 {
			ahead := x.see()
			row, _ := rowAt(ahead.Sight)
			head, _, _ := codec.Encode(ahead.Enc, ahead.Sight.Text[:row[0]])
			tail, _, _ := codec.Encode(ahead.Enc, ahead.Sight.Text[row[1]:])
			keys := within[r.Intn(len(within))]
			if keys == "dw" || keys == "db" { // they may go over the line's end
				keys = "d$"
			}
			x.keys(keys)
			x.keys("␛␛:w⏎")
			got := x.file("a")[ahead.Mark:]
			if !strings.HasPrefix(got, string(head)) || !strings.HasSuffix(got, string(tail)) || len(got) < len(head)+len(tail) {
				t.Fatalf("seed %d: %q at %d of %v: %q", seed, keys, ahead.Sight.At, ahead.Sight.Text, got)
			}
		}
	}
}

// macroKeys are keys among which none is the key 10, begins or ends a recording, or asks for a file or an end.
var macroKeys = []string{"x", "dd", "dw", "p", "P", "yyp", "J", "~", "iab\x1b", "A!\x1b", "onew\x1b", "cwz\x1b", "j", "k", "w", "b", "$", "0", "l", "h", ":s/a/b/\r", ":d\r", "/a\r", "n", "u", "v", "d", "2", "\"b", "i", "R", ":", ".", "2.", "fo", ";", "ma", "`a", "@b", "@@", "A\ry\x1b", "Q", "\x1b", "V>", "gv", "zt", "\x06", "\x05", "*", "&", ":set ic\r"}

// TestReplayed, W8: a macro that is played does what its keys do when they are typed.
func TestReplayed(t *testing.T) {
	failed := 0
	for seed := range int64(2500) {
		r := rand.New(rand.NewSource(seed))
		macro := ""
		for range 1 + r.Intn(6) {
			macro += macroKeys[r.Intn(len(macroKeys))]
		}
		macro += "0"
		data := picker{r}.pick("abc foo\nbar a\nfoo\n", "a\nb\nc\n", "x", "", "foo (bar)\r\nabc\r\n", strings.Repeat("line\n", 20))
		s := usual("m", "m", macro, "a", data)
		s.Height, s.Enc = 4, api.UTF8
		start := "vG$\"ay:e a⏎\"byl" + picker{r}.pick("", "j", "xu", "x", "/o⏎", "cwq␛", "vl␛", "G", "ql")
		one, two := alone(t, s), alone(t, s)
		one.keys(start)
		two.keys(start)
		if !same(one.see(), two.see()) || show(one.e.Do(api.Step{Kind: api.StepReg, N: 'a'}).Reg.Text) != macro {
			t.Fatalf("seed %d: %q is not in the register", seed, macro)
		}
		played := one.keys("@a")
		pressed := two.e.Do(api.Step{Kind: api.StepKeys, Keys: spell(macro)})
		if played.Err == api.ErrNested { // keys that happen to ask for a file or an end
			continue
		}
		if played.Err != api.OK {
			failed++
		}
		a, b := one.see(), two.see()
		if played.Err != pressed.Err || !same(a, b) || one.regs() != two.regs() {
			t.Fatalf("seed %d: %q on %q: played %d, typed %d\n%+v %s\n%+v %s", seed, macro, data, played.Err, pressed.Err, a, one.regs(), b, two.regs())
		}
		// what comes of it later is the same too
		for _, keys := range []string{"␛␛", "u", "u", ".", "n", ";", "j", "`a", "gv␛"} {
			p, q := one.keys(keys), two.keys(keys)
			if a, b := one.see(), two.see(); p.Err != q.Err || !same(a, b) || one.regs() != two.regs() {
				t.Fatalf("seed %d: %q on %q, then %q: %d, %d\n%+v\n%+v", seed, macro, data, keys, p.Err, q.Err, a, b)
			}
		}
	}
	if failed < 100 || failed > 2000 {
		t.Errorf("%d macros failed", failed)
	}
}

// TestDotted, W8: the dot does the last change again, as its keys would.
func TestDotted(t *testing.T) {
	changes := []string{"x", "3x", "X", "D", "dd", "2dd", "dw", "d2w", "db", "d$", "dj", "p", "P", "3p", "\"bp", "J", "3J", "gJ", "~", "4~", "g~~", "gUiw", ">>", "2>>", "<<", "rx", "2rx", "r⏎", "iab␛", "3ix␛", "aé␛", "A!␛", "I?␛", "onew␛", "2onew␛", "Onew⏎line␛", "Rover␛", "2Rq␛", "cwz␛", "ccz␛", "cfoq␛", "s!␛", "d/o⏎", "c/a⏎Q␛", "d?a⏎", "dn", "dap", "daw", "di(", "ia⌫⌫b␛", "i␖x␛", "a␗q␛", "i␛", "dfa", "d;"}
	done := 0
	for seed := range int64(2500) {
		r := rand.New(rand.NewSource(seed))
		change := changes[r.Intn(len(changes))]
		data := picker{r}.pick("abc foo\nbar a\nfoo a o\n", "a\nb\nc\nd\n", "xa ao oa", "foo (bar) o a\r\nabc o\r\n", strings.Repeat("line a o\n", 20))
		s := usual("a", "a", data)
		one, two := alone(t, s), alone(t, s)
		between := picker{r}.pick("", "j", "w", "0", "$", "gg", "G", "/a⏎", "k$", "u")
		start := "\"byw/a⏎gg" + picker{r}.pick("fa", "w", "l", "")
		whole := true
		for _, x := range []solo{one, two} {
			x.keys(start)
			whole = x.keys(change).Err == api.OK
			x.keys("␛")
			x.keys(between)
		}
		if !same(one.see(), two.see()) {
			t.Fatal("two editors differ")
		}
		if !whole { // the last change is another one then
			continue
		}
		done++
		dot := one.keys(".")
		two.keys(change)
		a, b := one.see().Sight, two.see().Sight
		a.Top, b.Top = 0, 0
		if a.Mode != api.Normal || b.Mode != api.Normal { // one that failed in the midst of its keys
			one.keys("␛")
			two.keys("␛")
			a, b = one.see().Sight, two.see().Sight
			a.Top, b.Top = 0, 0
		}
		if !slices.Equal(a.Text, b.Text) || !slices.Equal(a.Tags, b.Tags) || a.At != b.At {
			t.Fatalf("seed %d: %q, %q, then the dot (%d) on %q:\n%+v\n%+v", seed, change, between, dot.Err, data, a, b)
		}
	}
	if done < 1500 {
		t.Errorf("only %d changes went well", done)
	}
}

// TestUnbound, W9: keys that are bound to nothing change the pending keys and what is being recorded, and nothing else.
func TestUnbound(t *testing.T) {
	odd := []int{-1, -7, -256, 1 << 40, 0xD800, 0xDFFF, 0x110000, 0, 1, 3, 10, 11, 12, 14, 15, 16, 17, 19, 20, 24, 26, 28, 127, 128, 0x2603, 'Q', 'Z', 'g', 'z'}
	for _, keys := range []string{"", "2", "\"a", "2d", "g", "z", "Z", "\"", "d2", "dg", "i", "R", "a", ":", "/", "?", ":w", "v", "V", "vi", "i␖", ":␖", "qa", "qai", "q", "m", "@"} {
		for _, key := range odd {
			x := alone(t, usual("a", "a", "abc def\nghi\n"))
			x.keys("yywma" + keys)
			ahead, regs := x.see(), x.regs()
			a := x.e.Do(api.Step{Kind: api.StepKey, N: key})
			if a.Err != api.ErrKey {
				continue
			}
			now := x.see()
			now.Sight.Pending, ahead.Sight.Pending = nil, nil
			if !same(now, ahead) || x.regs() != regs {
				t.Errorf("%q, then %d: %+v, was %+v", keys, key, now, ahead)
			}
		}
	}
}

// TestRefused, W10: an atom that is refused, and a command line that is, leave the text, its tags, the marks and whether it is changed as they were.
func TestRefused(t *testing.T) {
	for _, ahead := range []string{"", "x", "xu", "x:w⏎"} {
		for _, c := range []struct {
			enc, limit int
			keys       string
			want       api.Errno
		}{
			{api.Latin1, 99, "i€", api.ErrFit}, {api.Latin1, 99, "R€", api.ErrFit}, {api.Latin1, 99, "A␖€", api.ErrFit}, {api.Latin1, 99, "r€", api.ErrFit},
			{api.UTF8, 10, "Aabc", api.ErrFull}, {api.UTF8, 10, "A€", api.ErrFull}, {api.UTF8, 10, "9p", api.ErrFull}, {api.UTF8, 10, "R€", api.ErrFull}, {api.UTF8, 10, "oab", api.ErrFull},
			{api.Latin1, 99, ":s/b/€/⏎", api.ErrFit}, {api.UTF8, 10, ":%s/b/bbbbbbbb/⏎", api.ErrFull}, {api.UTF8, 99, ":zz⏎", api.ErrCommand}, {api.UTF8, 99, ":9d⏎", api.ErrLine}, {api.UTF8, 99, ":/q/d⏎", api.ErrMatch}, {api.UTF8, 99, ":g/b/s//\\x/⏎", api.ErrFill}, {api.UTF8, 10, ":t.⏎", api.ErrFull},
			{api.UTF8, 99, ":w b⏎", api.ErrExists}, {api.UTF8, 99, ":r n⏎", api.ErrMissing}, {api.UTF8, 99, ":f b⏎", api.ErrExists}, {api.UTF8, 10, ":r b⏎", api.ErrFull},
		} {
			s := in(c.enc, usual("a", "a", "abc\nbcd\n", "b", "other"))
			s.Limit = c.limit
			x := alone(t, s)
			x.keys("\"ayyjlmbgg" + ahead)
			all := strokes(c.keys)
			for i, k := range all {
				was := x.see()
				a := x.e.Do(api.Step{Kind: api.StepKey, N: k})
				if a.Err == api.OK {
					continue
				}
				now := x.see()
				if !slices.Equal(now.Sight.Text, was.Sight.Text) || !slices.Equal(now.Sight.Tags, was.Sight.Tags) || now.Sight.Dirty != was.Sight.Dirty || now.Name != was.Name {
					t.Errorf("%q, key %d: %d: %+v, was %+v", c.keys, i, a.Err, now, was)
				}
				if a.Err != c.want && c.keys != "oab" && c.keys != "Aabc" {
					t.Errorf("%q, key %d: %d, want %d", c.keys, i, a.Err, c.want)
				}
			}
			x.keys("␛␛`b")
			if s := x.see().Sight; s.Text[s.At] != 'c' {
				t.Errorf("%q: the mark has moved to %d of %v", c.keys, s.At, s.Text)
			}
		}
	}
}
