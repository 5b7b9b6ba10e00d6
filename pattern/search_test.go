package pattern_test

import (
	"math"
	"math/rand"
	"slices"
	"strings"
	"testing"

	"copyist/api"
	"copyist/pattern"
	"copyist/piece"
)

// found is what Search answers.
type found struct {
	span api.Span
	err  api.Errno
}

func at(from, to int) found { return found{span: api.Span{From: from, To: to, Kind: api.ByChars}} }

var nothing = found{err: api.ErrMatch}

// spots tells every place of a text, in order, with its match.
func spots(x tree, ignore bool, atoms []int) []found {
	var out []found
	for _, line := range plainLines(atoms) {
		l := &plainLine{ints: atoms[line.From:line.To], ignore: ignore}
		for s := range len(l.ints) + 1 {
			for w := range x.ways(l, s) {
				out = append(out, at(line.From+s, line.From+w.end))
				break
			}
		}
		if l.tooLong() {
			panic("too long for a plain reading")
		}
	}
	return out
}

// plainSearch is P1008.
func plainSearch(all []found, from int, back, wrap bool) found {
	if back {
		all = slices.Clone(all)
		slices.Reverse(all)
	}
	for _, f := range all {
		if !back && f.span.From > from || back && f.span.From < from {
			return f
		}
	}
	if wrap && len(all) > 0 {
		return all[0]
	}
	return nothing
}

func search(p *pattern.Pattern, t *piece.Text, from int, back, wrap bool) found {
	span, e := p.Search(t, from, back, wrap)
	return found{span, e}
}

// sameSearch holds Search against the plain reading, from some offsets.
func sameSearch(t *testing.T, src []int, ignore bool, x *piece.Text, offsets ...int) {
	t.Helper()
	p := must(t, src, ignore)
	all := spots(plainOf(src), ignore, x.Atoms(0, x.Len()))
	for _, from := range offsets {
		for i := range 4 {
			back, wrap := i&1 > 0, i&2 > 0
			if got, want := search(p, x, from, back, wrap), plainSearch(all, from, back, wrap); got != want {
				t.Fatalf("encoding %d, %q in %q: from %d, back %v, wrap %v: %v, want %v", x.Enc(), text(src), text(x.Atoms(0, x.Len())), from, back, wrap, got, want)
			}
		}
	}
}

// offsets gives all of a text, and some outside of it.
func offsets(x *piece.Text) []int {
	out := []int{math.MinInt, math.MinInt + 1, -1 << 40, -2, -1, x.Len() + 1, x.Len() + 2, 1 << 40, math.MaxInt - 1, math.MaxInt}
	for at := range x.Len() + 1 {
		out = append(out, at)
	}
	return out
}

// The chapter's examples of Search.
func TestChapterSearch(t *testing.T) {
	for _, enc := range encodings {
		x := load(t, enc, spell("foo\no"))
		o, end := must(t, spell("o"), false), must(t, spell("$"), false)
		for _, c := range []struct {
			p          *pattern.Pattern
			from       int
			back, wrap bool
			want       found
		}{
			{o, 1, false, false, at(2, 3)}, {o, 2, false, false, at(4, 5)}, {o, 4, false, true, at(1, 2)}, {o, 4, false, false, nothing}, {o, 4, true, false, at(2, 3)}, {o, 1, true, true, at(4, 5)}, {o, 1, true, false, nothing},
			{end, 0, false, false, at(3, 3)}, {end, 3, false, false, at(5, 5)}, {end, 5, false, true, at(3, 3)}, {end, 5, false, false, nothing}, {end, 3, true, true, at(5, 5)}, {end, 3, true, false, nothing}, {end, 5, true, false, at(3, 3)},
		} {
			if got := search(c.p, x, c.from, c.back, c.wrap); got != c.want {
				t.Errorf("encoding %d: from %d, back %v, wrap %v: %v, want %v", enc, c.from, c.back, c.wrap, got, c.want)
			}
		}
	}
}

// P1008: breaks of each kind, the tail, empty lines, empty texts.
func TestSearchAroundBreaks(t *testing.T) {
	for _, c := range []struct {
		src, text  string
		from       int
		back, wrap bool
		want       found
	}{
		{"^", "a\r\nb\n", 0, false, false, at(3, 3)}, {"^", "a\r\nb\n", 2, false, false, at(3, 3)}, {"^", "a\r\nb\n", 3, false, false, nothing}, {"^", "a\r\nb\n", 3, false, true, at(0, 0)}, {"^", "a\r\nb\n", 5, true, false, at(3, 3)}, {"^", "a\r\nb\n", 3, true, false, at(0, 0)}, {"^", "a\r\nb\n", 0, true, true, at(3, 3)},
		{"$", "a\r\nb\n", 0, false, false, at(1, 1)}, {"$", "a\r\nb\n", 1, false, false, at(4, 4)}, {"$", "a\r\nb\n", 4, false, false, nothing}, {"$", "a\r\nb\n", 99, true, false, at(4, 4)}, {"$", "a\r\nb\n", 2, true, false, at(1, 1)},
		{"", "", -1, false, false, at(0, 0)}, {"", "", 0, false, false, nothing}, {"", "", 0, false, true, at(0, 0)}, {"", "", 0, true, false, nothing}, {"", "", 0, true, true, at(0, 0)}, {"", "", 1, true, false, at(0, 0)}, {"a", "", 0, false, true, nothing}, {"^$", "", 5, false, true, at(0, 0)},
		{"", "\n", 0, false, false, nothing}, {"", "\n", 1, false, false, nothing}, {"", "\n", 1, true, false, at(0, 0)}, {"", "\n", 1, false, true, at(0, 0)}, {"", "\n", 0, true, true, at(0, 0)}, {"^$", "a\n\n", 0, false, false, at(2, 2)}, {"^$", "a\n\n", 2, false, false, nothing}, {"^$", "a\n\n", 3, true, false, at(2, 2)},
		{"", "\r\n", 0, false, false, nothing}, {"", "\r\n", 1, true, false, at(0, 0)}, {"", "\r\n\r", 0, false, false, at(2, 2)}, {"", "\n\r", 0, false, false, at(1, 1)},
		{"a.", "a\nb", 0, false, true, nothing}, {`a\W*b`, "a\nb", 2, true, true, nothing}, {".*", "ab\ncd", 0, false, false, at(1, 2)}, {".*", "ab\ncd", 2, false, false, at(3, 5)}, {".*", "ab\ncd", 3, true, false, at(2, 2)}, {"o*", "foo", 0, false, false, at(1, 3)}, {"o*", "foo", 3, true, false, at(2, 3)}, {"foo", "foo", 0, false, true, at(0, 3)}, {"foo", "foo", 0, true, true, at(0, 3)}, {"foo", "foo", 0, false, false, nothing},
		{`\<b`, "ab\nb", 0, false, false, at(3, 4)}, {`a\>`, "a\nb", 1, true, false, at(0, 1)},
	} {
		for _, enc := range encodings {
			if got := search(must(t, spell(c.src), false), load(t, enc, spell(c.text)), c.from, c.back, c.wrap); got != c.want {
				t.Errorf("encoding %d, %q in %q: from %d, back %v, wrap %v: %v, want %v", enc, c.src, c.text, c.from, c.back, c.wrap, got, c.want)
			}
		}
	}
}

var searched = []string{"", "a", "^", "$", "^$", ".", "a*", `a\|$`, "ab", `.*b`, `b\{-}$`, `\<`, `\>`, "[^a]", `\(a\|ab\)\(b\|$\)`, "z", "A"}

// P1008: every short text, every offset.
func TestSearchInShortTexts(t *testing.T) {
	t.Parallel()
	for i, atoms := range short(lettersOf("ab\r\n"), 4) {
		x := load(t, encodings[i%4], atoms)
		for j, src := range searched {
			sameSearch(t, spell(src), j%2 == 0, x, offsets(x)...)
		}
	}
}

// P1008: a text as it is now, whatever was done to it, and atoms that only some encodings have.
func TestSearchBehindChanges(t *testing.T) {
	t.Parallel()
	for _, enc := range encodings {
		x := load(t, enc, spell("ab\rb\naé"))
		s := x.Snap()
		for _, edit := range []api.Edit{{From: 3, To: 4}, {From: 2, To: 2, Put: spell("aa")}, {From: 0, To: 1, Put: []int{10, 13}}, {From: 2, To: 2, Put: []int{10}}, {From: 0, To: 0, Put: spell("b")}} {
			if e := x.Change([]api.Edit{edit}); e != api.OK {
				t.Fatal(e)
			}
			for _, src := range searched {
				sameSearch(t, spell(src), true, x, offsets(x)...)
				sameSearch(t, spell(src), false, typed(t, enc, x.Atoms(0, x.Len())), offsets(x)...)
			}
		}
		x.Back(s)
		sameSearch(t, spell("É"), true, x, offsets(x)...)
		sameSearch(t, spell("É"), false, x, offsets(x)...)
	}
	x, _ := piece.Open(api.UTF8, []byte("a\xC3\n\xC3\xA9\xFF"), 99)
	if got := search(must(t, spell(`\xC3`), false), x, 1, false, true); got != at(1, 2) {
		t.Errorf("a raw byte in UTF8: %v", got)
	}
	if got := search(must(t, spell(`\x80\|[\xF0-\xFF]$`), false), x, 0, false, false); got != at(4, 5) {
		t.Errorf("a stretch of raw bytes in UTF8: %v", got)
	}
	x, _ = piece.Open(api.UTF16BE, []byte("\xD8\x00\x00a\x00\n\xDC\x00z"), 99)
	if got := search(must(t, spell(`\%uDC00\x7A`), false), x, 0, false, false); got != at(3, 5) {
		t.Errorf("a lone unit and a raw byte: %v", got)
	}
}

// P1008: texts of many lines and of long ones, from places around the ends of what is read at once.
func TestSearchInLongTexts(t *testing.T) {
	t.Parallel()
	r := rand.New(rand.NewSource(1008))
	breaks := []string{"\n", "\r", "\r\n", "\n\r", "\r\r\n\n"}
	for i := range 18 {
		var b strings.Builder
		for b.Len() < []int{1000, 3000, 9000}[i%3] {
			b.WriteString(strings.Repeat("ax "[r.Intn(3):], r.Intn([]int{3, 40, 900}[i/3%3])))
			b.WriteString(breaks[r.Intn(5)])
			if r.Intn(30) == 0 {
				b.WriteString("needle")
			}
		}
		if i%2 == 0 {
			b.WriteString("x")
		}
		x := load(t, encodings[i%4], spell(b.String()))
		from := []int{0, x.Len(), 1022, 1023, 1024, 1025, 2047, 2048, x.Len() - 1024, x.Len() - 1025, x.Len() / 2}
		for range 12 {
			from = append(from, r.Intn(x.Len()+1))
		}
		for _, src := range []string{"needle", "^", "$", "^$", "xx$", "no", "^needle"} {
			sameSearch(t, spell(src), i%5 == 0, x, from...)
		}
	}
}

// P1008: one match at the far end of a text of nothing but breaks, and of one line.
func TestSearchFarAway(t *testing.T) {
	t.Parallel()
	for _, unit := range []string{"\n", "\r", "\r\n", "a\n", "a"} {
		many := strings.Repeat(unit, 65000/len(unit))
		n := len(many)
		x := load(t, api.UTF8, spell(many+"needle"))
		y := load(t, api.Latin1, spell("needle"+many))
		p := must(t, spell("needle"), false)
		for _, c := range []struct {
			got, want found
		}{
			{search(p, x, 0, false, false), at(n, n+6)}, {search(p, x, 0, true, true), at(n, n+6)}, {search(p, x, n, false, true), at(n, n+6)}, {search(p, x, n, true, false), nothing}, {search(p, x, n, false, false), nothing},
			{search(p, y, n+6, true, false), at(0, 6)}, {search(p, y, n+6, false, true), at(0, 6)}, {search(p, y, 0, true, false), nothing}, {search(p, y, 1, true, false), at(0, 6)},
		} {
			if c.got != c.want {
				t.Errorf("many %q: %v, want %v", unit, c.got, c.want)
			}
		}
	}
}
