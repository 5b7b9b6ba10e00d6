package pattern_test

import (
	"math/rand"
	"slices"
	"testing"

	"copyist/api"
	"copyist/pattern"
)

// sameMatches holds Match, at each offset, and All against the plain reading; it tells whether that came to an end.
func sameMatches(t *testing.T, src []int, ignore bool, line []int) bool {
	t.Helper()
	p, x := must(t, src, ignore), plainOf(src)
	for at := range len(line) + 2 {
		want, found, known := plainMatch(x, ignore, line, at)
		if !known {
			return false
		}
		if got, ok := p.Match(line, at); got != want || ok != found {
			t.Fatalf("%q (ignore %v) in %q %v from %d: %v, %v, want %v, %v", text(src), ignore, text(line), line, at, got, ok, want, found)
		}
	}
	want, known := plainAll(x, ignore, line)
	if got := p.All(line); known && !slices.Equal(got, want) {
		t.Fatalf("All of %q (ignore %v) in %q %v: %v, want %v", text(src), ignore, text(line), line, got, want)
	}
	return known
}

// P1005 to P1007: every pattern of a few members, in every short line.
func TestShortPatterns(t *testing.T) {
	t.Parallel()
	for i, words := range [][]string{
		{"a", "b", `\(`, `\)`, "*", `\|`},
		{"a", `\(`, `\)`, "*", `\{-}`, `\?`},
		{"a", `\(`, `\)`, `\+`, `\{2}`, `\|`},
		{"a", ".", `\%(`, `\)`, "^", "$", "*"},
		{"a", `\(`, `\)`, `\{,2}`, `\{-1,}`, `\<`, `\>`},
	} {
		var tokens [][]int
		for _, w := range words {
			tokens = append(tokens, spell(w))
		}
		lines := short(lettersOf("ab"), 3)
		if i > 2 {
			lines = short(lettersOf("a "), 3)
		}
		for _, src := range short(tokens, 5) {
			if _, _, e := pattern.Compile(src, false); e == api.OK {
				for _, line := range lines {
					sameMatches(t, src, false, line)
				}
			}
		}
	}
}

// maker makes patterns at random.
type maker struct {
	*rand.Rand
	groups int
}

func (m *maker) pick(words ...string) []int { return spell(words[m.Intn(len(words))]) }

func (m *maker) pattern(deep int) []int {
	out := m.row(deep)
	for m.Intn(3) == 0 {
		out = slices.Concat(out, spell(`\|`), m.row(deep))
	}
	return out
}

func (m *maker) row(deep int) []int {
	var out []int
	for range m.Intn(4) {
		out = append(out, m.member(deep)...)
	}
	return out
}

func (m *maker) member(deep int) []int {
	if m.Intn(8) == 0 {
		return m.pick("^", "$", `\<`, `\>`)
	}
	out := m.thing(deep)
	if m.Intn(2) == 0 {
		out = append(out, m.pick("*", "*", `\+`, `\?`, `\{}`, `\{-}`, `\{2}`, `\{,2}`, `\{-,2}`, `\{1,}`, `\{-1,}`, `\{1,3}`, `\{-1,3}`, `\{0}`, `\{-0,1}`)...)
	}
	return out
}

func (m *maker) thing(deep int) []int {
	switch {
	case deep == 0 || m.Intn(2) == 0:
		return m.single()
	case m.groups < 9 && m.Intn(3) > 0:
		m.groups++
		return slices.Concat(spell(`\(`), m.pattern(deep-1), spell(`\)`))
	}
	return slices.Concat(spell(`\%(`), m.pattern(deep-1), spell(`\)`))
}

func (m *maker) single() []int {
	if m.Intn(6) == 0 {
		return slices.Concat(m.pick("[", "[^"), m.pick("a", "-", "]", "b-d", "A", `\d`, `\x80-\xFF`), m.pick("", "é", `\u`, "c-c", `\\`, ".", "1-3"), spell("]"))
	}
	return m.pick("a", "a", "a", "b", "b", "A", ".", `\w`, `\W`, `\s`, `\S`, `\d`, `\D`, `\l`, `\u`, "é", `\%u00C9`, `\xC3`, `\t`)
}

func (m *maker) line(most int) []int {
	ints := []int{'a', 'a', 'a', 'a', 'b', 'b', 'b', 'A', 'B', ' ', '1', 0xE9, 0xC9, -196, 9, '-', 'c'}
	var out []int
	for range m.Intn(most + 1) {
		out = append(out, ints[m.Intn(1+m.Intn(len(ints)))])
	}
	return out
}

// P1001 to P1007: patterns at random, in lines at random.
func TestMatchesAtRandom(t *testing.T) {
	t.Parallel()
	known := 0
	const all = 6000
	for seed := range all {
		m := &maker{Rand: rand.New(rand.NewSource(int64(seed)))}
		src := m.pattern(1 + seed%4)
		if _, _, e := pattern.Compile(src, false); e != api.OK {
			if e == api.ErrBig == (plainOf(src).parts() <= api.MaxParts) {
				t.Fatalf("Compile(%q): %d", text(src), e)
			}
			continue
		}
		for range 6 {
			if sameMatches(t, src, m.Intn(2) == 0, m.line(7)) {
				known++
			}
		}
	}
	if known < all*5 {
		t.Errorf("the plain reading came to an end in %d of %d cases", known, all*6)
	}
}
