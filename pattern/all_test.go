package pattern_test

import (
	"slices"
	"strings"
	"testing"
)

// P1007: empty matches beside others.
func TestAll(t *testing.T) {
	for _, c := range []struct {
		src, line string
		want      []int
	}{
		{"x*", "axxb", []int{0, 0, 1, 3, 4, 4}}, {"a", "aXa", []int{0, 1, 2, 3}},
		{"", "", []int{0, 0}}, {"", "ab", []int{0, 0, 1, 1, 2, 2}}, {"a", "", nil}, {"z", "ab", nil}, {"$", "ab", []int{2, 2}}, {"^", "ab", []int{0, 0}}, {`^\|$`, "ab", []int{0, 0, 2, 2}}, {`^\|$`, "", []int{0, 0}},
		{"aa", "aaaaa", []int{0, 2, 2, 4}}, {"aa*", "aaba", []int{0, 2, 3, 4}}, {`a\|`, "ba", []int{0, 0, 1, 2}}, {`a\|`, "aab", []int{0, 1, 1, 2, 3, 3}}, {`\|a`, "aa", []int{0, 0, 1, 1, 2, 2}}, {"x*", "x", []int{0, 1}}, {"x*", "xax", []int{0, 1, 2, 3}}, {`x\{-}`, "xx", []int{0, 0, 1, 1, 2, 2}}, {`x\{-}$`, "xx", []int{0, 2}},
		{`\<`, "ab cd", []int{0, 0, 3, 3}}, {`\>`, "ab cd", []int{2, 2, 5, 5}}, {`\w\+`, "ab, cd", []int{0, 2, 4, 6}}, {`\w\+\|\>`, "ab cd", []int{0, 2, 3, 5}}, {`\w\|\>`, "ab", []int{0, 1, 1, 2}}, {`\>\|\w`, "ab", []int{0, 1, 1, 2}}, {"^a", "aaa", []int{0, 1}}, {`a$`, "aaa", []int{2, 3}},
		{`a*b\|a`, "aaba", []int{0, 3, 3, 4}}, {`.*b\|a`, "aaa", []int{0, 1, 1, 2, 2, 3}}, {`a\{-}b\|a*`, "aaxab", []int{0, 2, 3, 5}},
	} {
		var got []int
		for _, m := range must(t, spell(c.src), false).All(spell(c.line)) {
			got = append(got, m[0], m[1])
		}
		if !slices.Equal(got, c.want) {
			t.Errorf("All of %q in %q: %v, want %v", c.src, c.line, got, c.want)
		}
	}
}

// P1007: all groups of each match, and nothing of the one ahead of it.
func TestAllGroups(t *testing.T) {
	got := must(t, spell(`\(a\)\|\(b\)\(c\)*`), false).All(spell("abab-bcc"))
	want := [][20]int{match(0, 1, 0, 1), match(1, 2, -1, -1, 1, 2), match(2, 3, 2, 3), match(3, 4, -1, -1, 3, 4), match(5, 8, -1, -1, 5, 6, 7, 8)}
	if !slices.Equal(got, want) {
		t.Errorf("%v, want %v", got, want)
	}
	if got := must(t, spell("z"), true).All(spell("ab")); len(got) != 0 {
		t.Errorf("no match: %v", got)
	}
}

// P1007: what All lists is what Match tells from place to place, in long lines too.
func TestAllByMatch(t *testing.T) {
	t.Parallel()
	line := spell(strings.Repeat("aab abba  b1aaaaab", 12))
	for _, src := range []string{"a*", `a*b\|a`, `\(a\|b\)*b`, `\(a*\)*b\|.`, `a\{-}b`, `\<\|b`, `\>`, "", `\(a\{,2}\)\{,3}1\|a\{2}`, `\%(a*b*\)*1\|a*`, `[ab]\{-2,3}$\|.`} {
		p := must(t, spell(src), false)
		var want [][20]int
		for at := 0; at <= len(line); {
			m, ok := p.Match(line, at)
			if !ok {
				break
			}
			if m[0] < m[1] || len(want) == 0 || want[len(want)-1][1] != m[0] {
				want = append(want, m)
			}
			if at = m[1]; m[0] == m[1] {
				at++
			}
		}
		if got := p.All(line); !slices.Equal(got, want) {
			t.Errorf("All of %q: %v, want %v", src, got, want)
		}
	}
}
