package pattern_test

import (
	"math"
	"strings"
	"testing"
)

// The chapter's table of Match, row by row.
func TestChapterMatch(t *testing.T) {
	for _, c := range []struct {
		src, line string
		want      []int
	}{
		{`a*`, "baa", []int{0, 0}},
		{`a\+`, "baa", []int{1, 3}},
		{`\(a\|ab\)\(c\|bcd\)*`, "abcd", []int{0, 4, 0, 1, 1, 4}},
		{`\(a\|ab\)\(c\|bcd\)\{-}`, "abcd", []int{0, 1, 0, 1}},
		{`\(a*\)*`, "b", []int{0, 0}},
		{`\(a*\)\+`, "b", []int{0, 0, 0, 0}},
		{`\(a\|b*\)*c`, "abbc", []int{0, 4, 1, 3}},
		{`\(\(a\)\|b\)*`, "ab", []int{0, 2, 1, 2, 0, 1}},
		{`\(a\{-}\)*`, "aa", []int{0, 2, 1, 2}},
		{`\(a\{-}\)*b`, "aaab", []int{0, 4, 2, 3}},
		{`x\{2,3}`, "xxxx", []int{0, 3}},
		{`x\{-2,3}`, "xxxx", []int{0, 2}},
		{`^$`, "", []int{0, 0}},
		{`\<b`, "ab b", []int{3, 4}},
		{`[^a-c\d]`, "ab7d", []int{3, 4}},
		{`[]-]`, "a]", []int{1, 2}},
	} {
		hold(t, c.src, false, spell(c.line), c.want)
	}
	hold(t, `\xFF`, false, []int{'a', -256}, []int{1, 2})
	hold(t, `aB`, true, spell("xAb"), []int{1, 3})
}

// P1001, P1005: each form of times, with and without a `-`, on rows of a's of each length.
func TestTimes(t *testing.T) {
	const endless = 1 << 20
	for _, c := range []struct {
		src         string
		least, most int
	}{
		{"*", 0, endless}, {`\+`, 1, endless}, {`\?`, 0, 1}, {`\{}`, 0, endless}, {`\{,}`, 0, endless}, {`\{3}`, 3, 3}, {`\{3,}`, 3, endless}, {`\{,3}`, 0, 3}, {`\{2,4}`, 2, 4}, {`\{0}`, 0, 0}, {`\{,0}`, 0, 0}, {`\{0,}`, 0, endless}, {`\{1}`, 1, 1}, {`\{004,0006}`, 4, 6},
		{`\{255}`, 255, 255}, {`\{255,}`, 255, endless}, {`\{,255}`, 0, 255}, {`\{254,255}`, 254, 255},
	} {
		for _, thing := range []string{"a", "[ab]", `\(a\)`, `\%(a\)`, `\(\(a\|b\)\)`} {
			for _, n := range []int{0, 1, 2, 3, 4, 5, 6, 7, 254, 255, 256, 300} {
				line := spell(strings.Repeat("a", n))
				greedy, ok := must(t, spell("^"+thing+c.src), false).Match(line, 0)
				if ok != (n >= c.least) || ok && greedy[1] != min(n, c.most) {
					t.Errorf("%s%s in %d a's: %v, %v", thing, c.src, n, greedy, ok)
				}
				exact, ok := must(t, spell("^"+thing+c.src+"$"), false).Match(line, 0)
				if ok != (n >= c.least && n <= c.most) || ok && exact[1] != n {
					t.Errorf("%s%s over all of %d a's: %v, %v", thing, c.src, n, exact, ok)
				}
				if !strings.HasPrefix(c.src, `\{`) {
					continue
				}
				few := `\{-` + c.src[2:]
				lazy, ok := must(t, spell("^"+thing+few), false).Match(line, 0)
				if ok != (n >= c.least) || ok && lazy[1] != c.least {
					t.Errorf("%s%s in %d a's: %v, %v", thing, few, n, lazy, ok)
				}
				exact, ok = must(t, spell("^"+thing+few+"$"), false).Match(line, 0)
				if ok != (n >= c.least && n <= c.most) || ok && exact[1] != n {
					t.Errorf("%s%s over all of %d a's: %v, %v", thing, few, n, exact, ok)
				}
			}
		}
	}
}

// P1005: ways in order of preference, groups that are taken several times, or not at all, or empty.
func TestWays(t *testing.T) {
	for _, c := range []struct {
		src, line string
		want      []int
	}{
		{`a\|ab`, "ab", []int{0, 1}}, {`ab\|a`, "ab", []int{0, 2}}, {`\%(a\|ab\)c`, "abc", []int{0, 3}}, {`\%(a\|ab\)\%(c\|bc\)`, "abc", []int{0, 3}}, {`\|a`, "a", []int{0, 0}}, {`a\|`, "ba", []int{0, 0}}, {`x\|y\|z`, "z", []int{0, 1}}, {`b\|a`, "ab", []int{0, 1}},
		{`\(a\)\|b`, "b", []int{0, 1}}, {`\(a\)\|\(b\)`, "b", []int{0, 1, -1, -1, 0, 1}}, {`\(a\)*`, "aaa", []int{0, 3, 2, 3}}, {`\(a\)*`, "b", []int{0, 0}}, {`\(a\)\{0}`, "a", []int{0, 0}}, {`\(a\)\{0}b`, "ab", []int{1, 2}}, {`\(\)`, "a", []int{0, 0, 0, 0}}, {`\(\)*`, "a", []int{0, 0}}, {`\(\)\+`, "a", []int{0, 0, 0, 0}}, {`\(\)\{-3,}`, "a", []int{0, 0, 0, 0}}, {`\%(\)*a`, "a", []int{0, 1}},
		{`\(a\|\(b\)\)*`, "ba", []int{0, 2, 1, 2, 0, 1}}, {`\(a\|\(b\)\)*`, "bab", []int{0, 3, 2, 3, 2, 3}}, {`\(\(\(a\)b\)c\)*`, "abcabc", []int{0, 6, 3, 6, 3, 5, 3, 4}}, {`\%(\(a\)\|\(b\)\)*`, "abba", []int{0, 4, 3, 4, 2, 3}},
		{`\(a*\)*`, "aab", []int{0, 2, 0, 2}}, {`\(a*\)*b`, "aab", []int{0, 3, 0, 2}}, {`\(a*\)\+b`, "b", []int{0, 1, 0, 0}}, {`\(a*\)\{2}`, "aa", []int{0, 2, 2, 2}}, {`\(a*\)\{2,}`, "aa", []int{0, 2, 2, 2}}, {`\(a*\)\{,2}`, "aa", []int{0, 2, 0, 2}}, {`\(a\?\)\{3}`, "aa", []int{0, 2, 2, 2}}, {`\(a\?\)*`, "aa", []int{0, 2, 1, 2}}, {`\(a\|\)*`, "aab", []int{0, 2, 1, 2}}, {`\(\|a\)*`, "aab", []int{0, 2, 1, 2}}, {`\(\|a\)\+`, "aab", []int{0, 2, 1, 2}}, {`\(\|a\)\{2}`, "aab", []int{0, 0, 0, 0}}, {`\(\|a\)\{2}b`, "aab", []int{0, 3, 1, 2}},
		{`\(\(a*\)*\)*`, "aa", []int{0, 2, 0, 2, 0, 2}}, {`\(\(a\{-}\)*\)*`, "aa", []int{0, 2, 0, 2, 1, 2}}, {`\(\(a\{-}\)\{-}\)*`, "aa", []int{0, 2, 1, 2, 1, 2}}, {`\(a*b*\)*`, "abab", []int{0, 4, 2, 4}}, {`\(a\{-}b\{-}\)*`, "aba", []int{0, 3, 2, 3}}, {`\(a*\|b\)*`, "aab", []int{0, 3, 2, 3}}, {`\(b\|a*\)\{-}c`, "abc", []int{0, 3, 1, 2}}, {`\(^\|a\)*`, "aa", []int{0, 2, 1, 2}}, {`\(^\|a\)\+`, "aa", []int{0, 2, 1, 2}}, {`\(a\|$\)*`, "aa", []int{0, 2, 1, 2}}, {`\(a\|$\)\{3}`, "aa", []int{0, 2, 2, 2}},
		{`\(.*\)\(.*\)`, "ab", []int{0, 2, 0, 2, 2, 2}}, {`\(.\{-}\)\(.*\)`, "ab", []int{0, 2, 0, 0, 0, 2}}, {`\(.\{-}\)b`, "aabb", []int{0, 3, 0, 2}}, {`\(.*\)b`, "aabb", []int{0, 4, 0, 3}}, {`.\{-}$`, "ab", []int{0, 2}}, {`\(a\+\)\(a\+\)`, "aaaa", []int{0, 4, 0, 3, 3, 4}}, {`\(a\{-1,}\)\(a\+\)`, "aaaa", []int{0, 4, 0, 1, 1, 4}}, {`\(a\{1,2}\)\{2}`, "aaa", []int{0, 3, 2, 3}}, {`\(a\{-1,2}\)\{2}`, "aaa", []int{0, 2, 1, 2}}, {`\(a\{2}\)*a`, "aaaaa", []int{0, 5, 2, 4}},
		{`\(a\)b\|ac`, "ac", []int{0, 2}}, {`\%(\(a\)b\)*ac`, "abac", []int{0, 4, 0, 1}}, {`\(\(a\)x\|ay\)*`, "axay", []int{0, 4, 2, 4, 0, 1}},
		{`\(a\)\(b\)\(c\)\(d\)\(e\)\(f\)\(g\)\(h\)\(i\)`, "xabcdefghi", []int{1, 10, 1, 2, 2, 3, 3, 4, 4, 5, 5, 6, 6, 7, 7, 8, 8, 9, 9, 10}},
		{"", "", []int{0, 0}}, {`a*`, "", []int{0, 0}}, {"a", "", nil}, {".", "", nil}, {"abc", "ab", nil}, {"$^", "", []int{0, 0}}, {"$^", "a", nil}, {`\D`, "", nil}, {"[^a]", "", nil},
	} {
		hold(t, c.src, false, spell(c.line), c.want)
	}
}

// P1005: edges at a line's beginning, in its midst and at its end.
func TestEdges(t *testing.T) {
	for _, c := range []struct {
		src, line string
		at        int
		want      []int
	}{
		{"^", "ab", 0, []int{0, 0}}, {"^", "ab", 1, nil}, {"^", "ab", -1, []int{0, 0}}, {"$", "ab", 0, []int{2, 2}}, {"$", "ab", 2, []int{2, 2}}, {"$", "ab", 3, nil}, {"a^b", "ab", 0, nil}, {"a$b", "ab", 0, nil}, {"a^", "a", 0, nil}, {"$a", "a", 0, nil}, {"^ab$", "ab", 0, []int{0, 2}}, {"^^a$$", "a", 0, []int{0, 1}}, {`\(^\)a\($\)`, "a", 0, []int{0, 1, 0, 0, 1, 1}}, {"^", "", 0, []int{0, 0}}, {"$", "", 0, []int{0, 0}}, {"a$", "aba", 0, []int{2, 3}}, {`a\|^`, "ba", 0, []int{0, 0}},
		{`\<`, "ab cd", 0, []int{0, 0}}, {`\<`, "ab cd", 1, []int{3, 3}}, {`\<`, "ab cd", 3, []int{3, 3}}, {`\<`, "ab cd", 4, nil}, {`\<`, "  ", 0, nil}, {`\<`, "", 0, nil}, {`\<`, ".a", 0, []int{1, 1}}, {`\<`, "a", 1, nil},
		{`\>`, "ab cd", 0, []int{2, 2}}, {`\>`, "ab cd", 2, []int{2, 2}}, {`\>`, "ab cd", 3, []int{5, 5}}, {`\>`, "ab cd", 5, []int{5, 5}}, {`\>`, "ab ", 3, nil}, {`\>`, "", 0, nil}, {`\>`, "..", 0, nil}, {`\>`, "a.", 0, []int{1, 1}},
		{`\<\w\+\>`, "-ab_1-", 0, []int{1, 5}}, {`a\>`, "ab a", 0, []int{3, 4}}, {`\<b`, "ab b", 0, []int{3, 4}}, {`\<\>`, "a b", 0, nil}, {`\>.\<`, "a b", 0, []int{1, 2}}, {`a\<b`, "ab", 0, nil}, {`\<é\>`, "eé é", 0, []int{3, 4}}, {`\<一`, "一", 0, []int{0, 1}}, {`\>\|^`, "a", 0, []int{0, 0}},
	} {
		holdFrom(t, c.src, false, spell(c.line), c.at, c.want)
		holdFrom(t, c.src, true, spell(c.line), c.at, c.want)
	}
	holdFrom(t, `\<`, false, []int{-98, 'a', 0xD800, 'b', 1 << 40}, 0, []int{1, 1})
	holdFrom(t, `\>`, false, []int{-98, 'a', 0xD800, 'b', 1 << 40}, 3, []int{4, 4})
}

// P1006: at, wherever it is.
func TestAt(t *testing.T) {
	for _, c := range []struct {
		src, line string
		at        int
		want      []int
	}{
		{"a", "aba", math.MinInt, []int{0, 1}}, {"a", "aba", -1, []int{0, 1}}, {"a", "aba", 0, []int{0, 1}}, {"a", "aba", 1, []int{2, 3}}, {"a", "aba", 2, []int{2, 3}}, {"a", "aba", 3, nil}, {"a", "aba", 4, nil}, {"a", "aba", math.MaxInt, nil},
		{"", "ab", -3, []int{0, 0}}, {"", "ab", 1, []int{1, 1}}, {"", "ab", 2, []int{2, 2}}, {"", "ab", 3, nil}, {"", "", 0, []int{0, 0}}, {"", "", 1, nil}, {"", "", math.MaxInt, nil}, {"x*", "axx", 2, []int{2, 3}}, {`\(x\)*`, "axx", 2, []int{2, 3, 2, 3}},
		{"a*b", "aab", 1, []int{1, 3}}, {".", "ab", 2, nil}, {`\(a\)\|\(b\)`, "ab", 1, []int{1, 2, -1, -1, 1, 2}},
	} {
		holdFrom(t, c.src, false, spell(c.line), c.at, c.want)
	}
}

// P1005: every int of a line counts as an atom.
func TestLinesOfAnyInts(t *testing.T) {
	line := []int{math.MinInt, -257, -256, -1, 10, 13, 0xD800, 0x110000, math.MaxInt}
	hold(t, "^.*$", false, line, []int{0, 9})
	hold(t, `^\W*$`, false, line, []int{0, 9})
	hold(t, `^[^a]*$`, true, line, []int{0, 9})
	hold(t, `\x00`, false, line, []int{3, 4})
	hold(t, string(rune(10)), false, line, []int{4, 5})
	for i, x := range line {
		if m, ok := must(t, []int{x, '\\', '+'}, true).Match(line, 0); !ok || m != match(i, i+1) {
			t.Errorf("%d: %v, %v", x, m, ok)
		}
	}
}
