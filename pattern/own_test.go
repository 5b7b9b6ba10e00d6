package pattern_test

import (
	"slices"
	"strings"
	"testing"

	"copyist/api"
	"copyist/pattern"
)

// roomy gives a list with spare room behind it, and what tells whether list and room are as they were.
func roomy(list []int) (out []int, same func() bool) {
	whole := make([]int, len(list)+40)
	for i := range whole {
		whole[i] = 1000 + i
	}
	copy(whole, list)
	kept := slices.Clone(whole)
	return whole[:len(list)], func() bool { return slices.Equal(whole, kept) }
}

// P1011: neither src nor a line nor a replacement is changed, spare room neither.
func TestNothingHandedInIsChanged(t *testing.T) {
	for _, s := range []string{"", `\(a\|b\)*c`, `[z-~a-c\d]\{2,}`, `[`, `a**`, `\<a\>`, strings.Repeat("a", 257), `\%(\%(a\{99}\)\{99}\)`} {
		src, same := roomy(spell(s))
		p, _, _ := pattern.Compile(src, true)
		if !same() {
			t.Errorf("Compile(%q) changes what was handed in", s)
		}
		if p == nil {
			continue
		}
		line, sameLine := roomy(spell("ABC abc a12b 3"))
		p.Match(line, 0)
		p.All(line)
		x := load(t, api.UTF8, spell("abc\nab"))
		p.Search(x, 0, false, true)
		if !sameLine() || !same() {
			t.Errorf("a call on %q changes what was handed in", s)
		}
	}
	for _, s := range []string{"", `<&>\1\u\1`, `\q`, strings.Repeat("&", 200), strings.Repeat("a", 257)} {
		rep, same := roomy(spell(s))
		line, sameLine := roomy(spell("abcdef"))
		pattern.Fill(rep, line, match(0, 6, 2, 4))
		if !same() || !sameLine() {
			t.Errorf("Fill(%q) changes what was handed in", s)
		}
	}
}

// P1011: a pattern keeps nothing of src.
func TestSrcIsNotKept(t *testing.T) {
	for _, s := range []string{"abc", "[a-c][b][c]", `\(a\)[^z]\w`, `\%u0061bc`} {
		src := spell(s)
		p := must(t, src, false)
		for i := range src {
			src[i] = 'z'
		}
		if m, ok := p.Match(spell("abc"), 0); !ok || m[1] != 3 {
			t.Errorf("%q, overwritten: %v, %v", s, m, ok)
		}
		if _, ok := p.Match(spell("zzz"), 0); ok {
			t.Errorf("%q, overwritten, is found elsewhere", s)
		}
	}
}

// P1011: nothing of a line is kept, and what was answered is not seen later.
func TestAnswersAreNewMemory(t *testing.T) {
	p := must(t, spell(`\(a\+\)b\|a`), false)
	line := spell("aab a ab")
	first := p.All(line)
	want := slices.Clone(first)
	again := p.All(line)
	again = again[:cap(again)]
	for i := range again {
		again[i] = match(7, 7)
	}
	for i := range line {
		line[i] = 'a'
	}
	p.All(line)
	p.Match(line, 0)
	if !slices.Equal(first, want) || !slices.Equal(p.All(spell("aab a ab")), want) {
		t.Error("what was answered has changed")
	}
	from := spell("abc")
	given, _ := pattern.Fill(spell("&"), from, match(0, 3))
	other, _ := pattern.Fill(spell("&"), from, match(0, 3))
	for i := range given[:cap(given)] {
		given[:cap(given)][i] = 'z'
	}
	if text(from) != "abc" || text(other) != "abc" {
		t.Error("Fill answers what it was handed in, or twice the same")
	}
	from[0] = 'q'
	if text(other) != "abc" {
		t.Error("Fill answers a piece of the line")
	}
}

// P1011: two patterns in turns, and one asked again and again, answer as new ones do.
func TestPatternsInTurns(t *testing.T) {
	t.Parallel()
	srcs := []string{`\(a\|ab\)\(c\|bcd\)*`, `\<\w*\>`, `[^b]\{-}b`, "", `A\(.\)`, `\(a*\)*b\|c`}
	lines := []string{"abcd", "", "ab Ab aab", "bbb", "aaaaaaaa", "cab abcdbcd"}
	x := load(t, api.UTF16LE, spell(strings.Join(lines, "\r\n")))
	var kept []*pattern.Pattern
	for i, src := range srcs {
		kept = append(kept, must(t, spell(src), i%2 == 0))
	}
	for round := range 40 {
		for i, src := range srcs {
			fresh := must(t, spell(src), i%2 == 0)
			line := spell(lines[(i*5+round)%len(lines)])
			for at := range len(line) + 2 {
				got, ok := kept[i].Match(line, at)
				if want, found := fresh.Match(line, at); got != want || ok != found {
					t.Fatalf("%q in %q from %d: %v, %v, a new one %v, %v", src, text(line), at, got, ok, want, found)
				}
			}
			if !slices.Equal(kept[i].All(line), fresh.All(line)) || kept[i].Groups() != fresh.Groups() {
				t.Fatalf("%q in %q: All or Groups answer otherwise than a new one's", src, text(line))
			}
			if got, want := search(kept[i], x, round, round%2 == 0, true), search(fresh, x, round, round%2 == 0, true); got != want {
				t.Fatalf("Search of %q from %d: %v, a new one %v", src, round, got, want)
			}
		}
	}
}

// Search changes nothing of the text.
func TestSearchChangesNothing(t *testing.T) {
	for _, enc := range encodings {
		x := load(t, enc, spell("ab\r\ncd\n\nab"))
		x.Change([]api.Edit{{From: 1, To: 2, Put: spell("xy")}})
		n := x.Len()
		atoms, tags, b, s := x.Atoms(0, n), x.Tags(0, n), x.Bytes(), x.Snap()
		p := must(t, spell("[ab]"), true)
		for i := range 4 * (n + 1) {
			p.Search(x, i/4, i&1 > 0, i&2 > 0)
		}
		if !slices.Equal(x.Atoms(0, n+1), atoms) || !slices.Equal(x.Tags(0, n+1), tags) || !slices.Equal(x.Bytes(), b) || x.Back(s) != api.OK {
			t.Errorf("encoding %d: the text has changed", enc)
		}
	}
}
