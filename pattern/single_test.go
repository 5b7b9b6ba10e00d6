package pattern_test

import (
	"math"
	"slices"
	"strconv"
	"testing"

	"copyist/api"
	"copyist/glyph"
)

// sample are ints at the edges of what singles take: signs, digits, letters that turn both ways, one way and not at all, raw bytes, lone units, ints that are no atoms.
var sample = []int{
	math.MinInt, -1 << 40, -1000, -258, -257, -256, -255, -196, -129, -128, -66, -42, -33, -10, -2, -1,
	0, 1, 7, 8, 9, 10, 11, 12, 13, 27, 28, 31, 32, 33, 36, 37, 38, 40, 41, 42, 43, 44, 45, 46, 47, 48, 49, 52, 56, 57, 58, 60, 62, 63, 64, 65, 66, 75, 77, 83, 89, 90, 91, 92, 93, 94, 95, 96, 97, 98, 99, 100, 101, 105, 107, 115, 121, 122, 123, 124, 125, 126, 127,
	0x85, 0xA0, 0xAA, 0xB5, 0xC0, 0xC3, 0xC9, 0xD7, 0xDE, 0xDF, 0xE0, 0xE5, 0xE9, 0xF7, 0xFE, 0xFF, 0x100, 0x101, 0x130, 0x131, 0x178, 0x17F, 0x300, 0x301, 0x370, 0x371, 0x386, 0x39C, 0x3A3, 0x3A9, 0x3AC, 0x3BC, 0x3C2, 0x3C3, 0x3C9, 0x400, 0x410, 0x430, 0x450, 0x531, 0x561,
	0x1E00, 0x1E01, 0x1E9E, 0x1FFC, 0x2003, 0x2028, 0x20AC, 0x2126, 0x212A, 0x212B, 0x2160, 0x2170, 0x24B6, 0x24D0, 0x3000, 0x4E00, 0xAC00, 0xD7FF, 0xD800, 0xDBFF, 0xDC00, 0xDFFF, 0xE000, 0xFF21, 0xFF41, 0xFFFD, 0x10400, 0x10428, 0x1F600, 0x10FFFE, 0x10FFFF,
	0x110000, 1 << 24, 1<<32 + 'a', 1<<32 + '0', 1 << 40, math.MaxInt - 1, math.MaxInt,
}

// takes asks a pattern that is one single.
func takes(t *testing.T, src []int, ignore bool, atom int) bool {
	t.Helper()
	m, ok := must(t, src, ignore).Match([]int{atom}, 0)
	if ok && m != match(0, 1) {
		t.Errorf("%q in %d: %v", text(src), atom, m)
	}
	return ok
}

// sameTaken holds a single against what it must take, and against that with ignore, at all of the sample.
func sameTaken(t *testing.T, src []int, want func(atom int) bool, not bool) {
	t.Helper()
	p, q := must(t, src, false), must(t, src, true)
	for _, atom := range sample {
		folded := (want(atom) || want(glyph.Lower(atom)) || want(glyph.Upper(atom))) != not
		if _, ok := p.Match([]int{atom}, 0); ok != (want(atom) != not) {
			t.Errorf("%q %v takes %d: %v", text(src), src, atom, ok)
		}
		if _, ok := q.Match([]int{atom}, 0); ok != folded {
			t.Errorf("%q %v takes %d whatever the case: %v", text(src), src, atom, ok)
		}
	}
	if _, ok := p.Match(nil, 0); ok {
		t.Errorf("%q takes something of nothing", text(src))
	}
}

func among(list ...int) func(int) bool {
	return func(atom int) bool { return slices.Contains(list, atom) }
}

func between(from, to int) func(int) bool {
	return func(atom int) bool { return from <= atom && atom <= to }
}

func either(all ...func(int) bool) func(int) bool {
	return func(atom int) bool {
		return slices.ContainsFunc(all, func(f func(int) bool) bool { return f(atom) })
	}
}

func none(int) bool { return false }

// P1002, P1003: an int for itself, and one behind a backslash.
func TestIntsForThemselves(t *testing.T) {
	for _, x := range sample {
		if !slices.Contains(spell(`\.[*^$`), x) {
			sameTaken(t, []int{x}, among(x), false)
		}
		letterOrDigit := 'a' <= x && x <= 'z' || 'A' <= x && x <= 'Z' || '0' <= x && x <= '9'
		if !letterOrDigit && !slices.Contains(spell("()|+?{<>%"), x) {
			sameTaken(t, []int{'\\', x}, among(x), false)
		}
	}
}

// P1002, P1003: the table's other rows.
func TestTableOfSingles(t *testing.T) {
	digit, blank := between('0', '9'), among(32, 9)
	word := func(a int) bool { return glyph.Word(a) == glyph.Letter }
	for _, c := range []struct {
		src  string
		want func(int) bool
		not  bool
	}{
		{".", none, true},
		{`\d`, digit, false}, {`\D`, digit, true}, {`\s`, blank, false}, {`\S`, blank, true}, {`\w`, word, false}, {`\W`, word, true},
		{`\l`, func(a int) bool { return glyph.Upper(a) != a }, false},
		{`\u`, func(a int) bool { return glyph.Lower(a) != a }, false},
		{`\t`, among(9), false}, {`\e`, among(27), false},
		{`\x00`, among(-1), false}, {`\xff`, among(-256), false}, {`\xFF`, among(-256), false}, {`\xC3`, among(-196), false}, {`\xc3`, among(-196), false}, {`\x41`, among(-66), false}, {`\x09`, among(-10), false},
		{`\%u0041`, among('A'), false}, {`\%u00e9`, among(0xE9), false}, {`\%u00E9`, among(0xE9), false}, {`\%ud800`, among(0xD800), false}, {`\%uDFFF`, among(0xDFFF), false}, {`\%u0000`, among(0), false}, {`\%uFFFD`, among(0xFFFD), false},
		{`\%U000041`, among('A'), false}, {`\%U01F600`, among(0x1F600), false}, {`\%U10ffff`, among(0x10FFFF), false}, {`\%U10FFFE`, among(0x10FFFE), false}, {`\%U00dc00`, among(0xDC00), false}, {`\%U010428`, among(0x10428), false},
	} {
		sameTaken(t, spell(c.src), c.want, c.not)
	}
}

// P1002, P1003: items between brackets, each with its opposite.
func TestBrackets(t *testing.T) {
	word := func(a int) bool { return glyph.Word(a) == glyph.Letter }
	for _, c := range []struct {
		items string
		want  func(int) bool
	}{
		{"a", among('a')}, {"ab", among('a', 'b')}, {"aa", among('a')}, {"a-c", between('a', 'c')}, {"a-a", among('a')}, {"A-Z", between('A', 'Z')},
		{"]", among(']')}, {"]a", among(']', 'a')}, {"]-a", between(']', 'a')}, {"]-", among(']', '-')}, {`\]`, among(']')}, {`a\]`, among('a', ']')},
		{"-", among('-')}, {"--", among('-')}, {"---", among('-')}, {"-a", among('-', 'a')}, {"a-", among('-', 'a')}, {"--a", between('-', 'a')}, {"+--", between('+', '-')}, {"+--a", either(between('+', '-'), among('a'))}, {"a-c-e", either(between('a', 'c'), among('-', 'e'))}, {"a-c--.", either(between('a', 'c'), between('-', '.'))}, {"a-c-", either(between('a', 'c'), among('-'))},
		{`\-`, among('-')}, {`a\-z`, among('a', '-', 'z')}, {`\--0`, between('-', '0')}, {`*-\-`, between('*', '-')}, {`a-c\-e`, either(between('a', 'c'), among('-', 'e'))},
		{"a^", among('a', '^')}, {`\^`, among('^')}, {`\^a`, among('a', '^')}, {"Z-^", between('Z', '^')},
		{`\\`, among('\\')}, {`\\-\]`, between('\\', ']')}, {`Z-\\`, between('Z', '\\')}, {`\t`, among(9)}, {`\e`, among(27)}, {`\t-\e`, between(9, 27)}, {`\e- `, between(27, 32)},
		{`\x41`, among(-66)}, {`\x00-\xff`, between(-256, -1)}, {`\x41-\xC3`, between(-196, -66)}, {`\xC3-\xC3`, among(-196)}, {`\x80-\xffa`, either(between(-256, -129), among('a'))}, {`\x00-\x09-a`, either(between(-10, -1), among('-', 'a'))},
		{`\d`, between('0', '9')}, {`\s`, among(9, 32)}, {`\w`, word}, {`\l`, func(a int) bool { return glyph.Upper(a) != a }}, {`\u`, func(a int) bool { return glyph.Lower(a) != a }},
		{`\d\s`, either(between('0', '9'), among(9, 32))}, {`\d-a`, either(between('0', '9'), among('-', 'a'))}, {`\d--a`, either(between('0', '9'), between('-', 'a'))}, {`\w-`, either(word, among('-'))}, {`a\d`, either(between('0', '9'), among('a'))}, {`a-c\d`, either(between('0', '9'), between('a', 'c'))}, {`\l\u`, func(a int) bool { return glyph.Upper(a) != a || glyph.Lower(a) != a }}, {`]\d`, either(between('0', '9'), among(']'))},
		{".*[$(|+?{}%", among(spell(".*[$(|+?{}%")...)}, {"tdsx", among('t', 'd', 's', 'x')}, {"z-~!-%0-5a-e3-8", either(between('z', '~'), between('!', '%'), between('0', '8'), between('a', 'e'))}, {"é-ÿ", between(0xE9, 0xFF)}, {"ß-ſ", between(0xDF, 0x17F)}, {"σ", among(0x3C3)}, {"Σ", among(0x3A3)}, {"k", among('k')}, {"å-ç", between(0xE5, 0xE7)},
	} {
		sameTaken(t, spell("["+c.items+"]"), c.want, false)
		sameTaken(t, spell("[^"+c.items+"]"), c.want, true)
	}
}

// P1002: stretches of any ints, and those that are none.
func TestStretches(t *testing.T) {
	isRaw := between(-256, -1)
	for _, first := range sample {
		for _, last := range sample {
			src := []int{'[', 'q', first, '-', last, ']'}
			if slices.Contains(spell(`]\-`), first) || slices.Contains(spell(`]\`), last) {
				continue
			}
			var want func(int) bool
			switch {
			case first >= 0 && last >= first:
				want = between(first, last)
			case isRaw(first) && isRaw(last) && -1-first <= -1-last:
				want = between(last, first)
			default:
				refused(t, src, 4, api.ErrPattern)
				continue
			}
			p := must(t, src, false)
			for _, atom := range []int{first, last, first - 1, first + 1, last - 1, last + 1, (first + last) / 2, 'q', 0, -1, -256} {
				if _, ok := p.Match([]int{atom}, 0); ok != (want(atom) || atom == 'q') {
					t.Fatalf("the stretch from %d to %d takes %d: %v", first, last, atom, ok)
				}
			}
		}
	}
}

// P1002: every raw byte, however it is written, alone and in stretches.
func TestRawBytes(t *testing.T) {
	for b := range 256 {
		two := strconv.FormatInt(int64(b)+256, 16)[1:]
		upper := spell(two)
		for i, c := range upper {
			if c >= 'a' {
				upper[i] = c - 32
			}
		}
		for _, digits := range [][]int{spell(two), upper} {
			if !takes(t, slices.Concat(spell(`\x`), digits), false, -1-b) || !takes(t, slices.Concat(spell(`[\x`), digits, spell("]")), true, -1-b) || takes(t, slices.Concat(spell(`\x`), digits), true, b) {
				t.Errorf("the raw byte %d", b)
			}
		}
		for _, c := range []int{0, b - 1, b, b + 1, 255} {
			low := slices.Concat(spell(`[\x00-\x`), upper, spell("]"))
			if c >= 0 && c < 256 && takes(t, low, false, -1-c) != (c <= b) {
				t.Errorf("the raw byte %d in a stretch from 0 to %d", c, b)
			}
			high := slices.Concat(spell(`[\x`), upper, spell(`-\xFF]`))
			if c >= 0 && c < 256 && takes(t, high, false, -1-c) != (c >= b) {
				t.Errorf("the raw byte %d in a stretch from %d to 255", c, b)
			}
		}
	}
}

// P1002: what `\d`, `\s`, `\w`, `\l`, `\u` and their opposites take, of all atoms.
func TestClassesOfAllAtoms(t *testing.T) {
	t.Parallel()
	var line []int
	for atom := -300; atom < 0x11000; atom++ {
		line = append(line, atom)
	}
	for atom := 0x11000; atom < 0x110100; atom += 61 {
		line = append(line, atom)
	}
	for name, takes := range classes {
		var want, others []int
		for i, atom := range line {
			if takes(atom) {
				want = append(want, i)
			} else {
				others = append(others, i)
			}
		}
		opposites := []string{"[^" + name + "]"}
		if name != `\l` && name != `\u` {
			opposites = append(opposites, `\`+string(rune(name[1]-32)))
		}
		if got := places(t, name, line); !slices.Equal(got, want) {
			t.Errorf("%s takes %d atoms, want %d", name, len(got), len(want))
		}
		for _, o := range opposites {
			if got := places(t, o, line); !slices.Equal(got, others) {
				t.Errorf("%s takes %d atoms, want %d", o, len(got), len(others))
			}
		}
	}
	if got := places(t, ".", line); len(got) != len(line) {
		t.Errorf("the point takes %d of %d atoms", len(got), len(line))
	}
}

// places tells where a single takes something.
func places(t *testing.T, src string, line []int) []int {
	t.Helper()
	var out []int
	for _, m := range must(t, spell(src), false).All(line) {
		out = append(out, m[0])
	}
	return out
}

// P1003: whatever the case, among other members; words' edges have no case.
func TestWhateverTheCase(t *testing.T) {
	for _, c := range []struct {
		src, line string
		want      []int
	}{
		{"aB", "xAb", []int{1, 3}}, {"strasse", "STRASSE", []int{0, 7}}, {"[b-d]", "aC", []int{1, 2}}, {"[B-D]", "ac", []int{1, 2}}, {"[^a]", "Aab", []int{2, 3}}, {"[^A]", "Aab", []int{2, 3}},
		{`\u`, "1a", []int{1, 2}}, {`\l`, "1A", []int{1, 2}}, {`[^\u]`, "aA1", []int{2, 3}}, {`[^\l]`, "aA1", []int{2, 3}}, {`\W`, "aA.", []int{2, 3}}, {`\D`, "1a", []int{1, 2}}, {`\S`, " a", []int{1, 2}},
		{"É", "eé", []int{1, 2}}, {"é", "EÉ", []int{1, 2}}, {`\%u00C9`, "é", []int{0, 1}}, {"S", "sſ", []int{0, 1}}, {"S", "ſ", []int{0, 1}}, {"s", "ſ", nil}, {"ſ", "s", nil}, {"k", "\u212a", []int{0, 1}}, {"K", "\u212a", nil}, {"ß", "\u1e9e", []int{0, 1}}, {"σ", "ς", nil}, {"Σ", "ς", []int{0, 1}}, {"ς", "σ", nil},
		{`\(a\)`, "A", []int{0, 1, 0, 1}}, {`\<a\>`, "bA A", []int{3, 4}}, {"a*B*", "aAbB", []int{0, 4}}, {"[a-c-]", "-", []int{0, 1}}, {".", "A", []int{0, 1}},
	} {
		hold(t, c.src, true, spell(c.line), c.want)
	}
	for _, c := range []struct{ src, line string }{{"aB", "AB"}, {"[b-d]", "C"}, {"É", "é"}, {`\u`, "a"}, {`\l`, "A"}} {
		hold(t, c.src, false, spell(c.line), nil)
	}
}
