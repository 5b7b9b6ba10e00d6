package pattern_test

import (
	"slices"
	"strings"
	"testing"
	"time"

	"copyist/api"
)

// soon fails, if what is done takes longer than anything that is answered at once could take, on a slow machine too.
func soon(t *testing.T, what string, do func()) {
	t.Helper()
	begin := time.Now()
	do()
	if took := time.Since(begin); took > 20*time.Second {
		t.Errorf("%s took %v", what, took)
	}
}

// heavy are patterns that go twice over what they need not, if ways are gone one by one; none is in a row of a's.
var heavy = []string{
	`\(\(\(a*\)*\)*\)*b`, `\(a\|a\)*b`, `\(a*\)*\(a*\)*\(a*\)*b`, `a\{,30}a\{30}b`, `\(a\|a\|aa\)*b`, `\(\(a\{-}\)*\)\{-}b`, `\(a*a*a*\)*b`, `.*.*.*.*.*b`, `.*\(.*\(.*\)*\)*b`, `\(\(a\+\)\+\)\+b`, `\(\(a\?\)\{,9}\)*b`, `\%(\%(a\|aa\)\{,9}\|a*\)*b`, `\(\(\|a\)*\)*b`, `\%(\%(\|\|\)\{,30}\)\{30}b`, `\(\w*\s*\)*b$`, `\(^\|a*\)*b`, `\<\(a*\)*b\>`, `a*` + strings.Repeat("a*", 30) + "b",
}

// P1009: Match, from the first offset, over long rows of a's; and whatever the case.
func TestNeverSlowly(t *testing.T) {
	t.Parallel()
	line := spell(strings.Repeat("a", 20000))
	for _, src := range heavy {
		for _, ignore := range []bool{false, true} {
			p := must(t, spell(src), ignore)
			soon(t, "Match of "+src, func() {
				if m, ok := p.Match(line, 0); ok {
					t.Errorf("%q: %v", src, m)
				}
			})
		}
		end := must(t, spell(src), false)
		soon(t, "Match of "+src+" with a b", func() {
			if _, ok := end.Match(append(slices.Clone(line), 'b'), 0); !ok {
				t.Errorf("%q is not found", src)
			}
		})
	}
}

// P1009: All and Search go over a line once, not once from each offset.
func TestAllAndSearchNeverSlowly(t *testing.T) {
	t.Parallel()
	n := 60000
	atoms := spell(strings.Repeat("a", n))
	x := load(t, api.UTF8, atoms)
	for _, src := range heavy {
		p := must(t, spell(src), false)
		soon(t, "All of "+src, func() {
			if got := p.All(atoms); len(got) != 0 {
				t.Errorf("%q: %v", src, got)
			}
		})
		for i := range 4 {
			soon(t, "Search of "+src, func() {
				if got := search(p, x, n/2, i&1 > 0, i&2 > 0); got != nothing {
					t.Errorf("%q: %v", src, got)
				}
			})
		}
		// What goes on from each offset to the end, in vain, and then takes one atom.
		either := must(t, spell(src+`\|.`), false)
		soon(t, "All of "+src+" or one", func() {
			if got := either.All(atoms); len(got) != n {
				t.Errorf("%q or one atom: %d", src, len(got))
			}
		})
		soon(t, "Search of "+src+" or one", func() {
			if got := search(either, x, n, true, false); got != at(n-1, n) {
				t.Errorf("%q or one atom: %v", src, got)
			}
		})
	}
	for src, want := range map[string]found{"a.*a": at(n-2, n), "^.*a": at(0, n), `a\(.*\)*$`: at(n-1, n)} {
		p := must(t, spell(src), false)
		soon(t, "back to "+src, func() {
			if got := search(p, x, n, true, false); got != want {
				t.Errorf("back to %q: %v, want %v", src, got, want)
			}
		})
	}
}

// P1009: patterns of as many parts as may be, also such as have many copies of nothing.
func TestManyParts(t *testing.T) {
	t.Parallel()
	line := spell(strings.Repeat("a", 3000))
	for _, src := range []string{
		strings.Repeat(`a\{255}`, 15) + "b", strings.Repeat(`a\{,255}`, 15) + "b", strings.Repeat(`a\{-,255}`, 15) + "b", `\%(\%(a\{,15}\)\{,15}\)\{,15}b`, `\(\(a\{,15}\)\{,15}\)\{,10}b`, `\%(\%(\%(\)\{,255}\)\{63}\)\{63}b`, `\%(\%(\%(\)*\)\{63}\)\{63}b`, `\%(\%(\|\)\{,60}\)\{30}b`, strings.Repeat(`\%(`, 30) + `\%(a*\)\{255}` + strings.Repeat(`\)*`, 30) + "b", strings.Repeat(`\%(`, 40) + "a" + strings.Repeat(`\)*`, 40) + "b",
	} {
		soon(t, "Match of "+src, func() {
			if m, ok := must(t, spell(src), true).Match(line, 0); ok {
				t.Errorf("%q: %v", src, m)
			}
		})
	}
}

// A way through a very long line is no matter of how deep a call may go.
func TestVeryLongLines(t *testing.T) {
	t.Parallel()
	n := 1 << 20
	line := slices.Repeat(spell("a"), n)
	hold(t, `\(\%(a*b*\)*\)c*$`, false, line, []int{0, n, 0, n})
	hold(t, `\(a\|b\)\{-}$`, false, line, []int{0, n, n - 1, n})
	hold(t, `b`, false, line, nil)
}
