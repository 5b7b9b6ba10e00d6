package pattern_test

import (
	"math"
	"slices"
	"strings"
	"testing"

	"copyist/api"
	"copyist/pattern"
)

// finishes are what may be missing behind the beginning of a pattern, open groups left out.
var finishes = []string{"", ".", "a", "]", "a]", "-]", `\]]`, `]]`, "}", "0]", "00]", "0", "00", "000", "0000", "00000", "000000", "u0000"}

// model tells of ints whether they are the beginning of a list that has the form but for the late rules, whether they have it themselves, and where the first late rule is broken in them (-1: nowhere).
func model(src []int) (begins, whole bool, late int) {
	open := len(slices.DeleteFunc(slices.Clone(src), func(x int) bool { return x != '(' }))
	for shut := range open + 1 {
		for _, finish := range finishes {
			list := slices.Concat(src, spell(finish), spell(strings.Repeat(`\)`, shut)))
			_, f, ok := readPlain(list)
			if !ok {
				continue
			}
			_, _, whole = readPlain(src)
			late = slices.Min(append(f.late, len(src)))
			if late == len(src) {
				late = -1
			}
			return true, whole, late
		}
	}
	return false, false, -1
}

// holdPlace holds the answer to ints of which all but the last are the beginning of a pattern against the model; it tells whether they can go on.
func holdPlace(t *testing.T, src []int) bool {
	t.Helper()
	begins, whole, late := model(src)
	switch {
	case !begins:
		refused(t, src, len(src)-1, api.ErrPattern)
		refused(t, append(slices.Clone(src), ')', '\\', '*', -7), len(src)-1, api.ErrPattern)
		return false
	case late >= 0:
		refused(t, src, late, api.ErrPattern)
		refused(t, append(slices.Clone(src), ')', '\\', '*', -7), late, api.ErrPattern)
		return false
	case whole:
		must(t, src, false)
	default:
		refused(t, src, len(src), api.ErrPattern)
	}
	return true
}

// P1001, P1002, P1004: all lists of some ints, to some length, each as far as it can go on.
func TestEveryBeginning(t *testing.T) {
	t.Parallel()
	for _, c := range []struct {
		begin, ints string
		most        int
	}{
		{"", `a\(*|)`, 6},
		{"", `a\(%)+?`, 5},
		{"", `a.^$\<>*+`, 4},
		{"", `\dDsSwWluteaAzZnq09_~}]-`, 3},
		{"a", `\{}-,325`, 5},
		{`a\{`, `}-,012569`, 5},
		{`a\{`, `0256`, 6},
		{"[", `a-]^\`, 6},
		{"[", `ac-\]d`, 6},
		{"[a", `-^\]dtex`, 4},
		{`[a-`, `\tedxslwuDWSq0f]-`, 4},
		{`[\x`, `0fFg-]\`, 5},
		{`[\x41-\x`, `0345]`, 4},
		{`\`, `dDsSwWluteaAzZxqn0189()|+?{}<>%&~-_[].*^$`, 3},
		{`\x`, `09afAFgG@`, 4},
		{`\%`, `(uUxd0%)\`, 4},
		{`\%u`, `0fFgG*`, 6},
		{`\%U`, `01fF*`, 8},
		{`\%U`, `0129aA`, 5},
		{`\(\(a\|`, `b\)*(`, 5},
		{strings.Repeat(`\(\)`, 8), `\()%`, 6},
	} {
		t.Run(c.begin+" "+c.ints, func(t *testing.T) {
			t.Parallel()
			goOn(t, spell(c.begin), spell(c.ints), c.most)
		})
	}
}

func goOn(t *testing.T, src, ints []int, left int) {
	for _, x := range ints {
		longer := append(slices.Clone(src), x)
		if holdPlace(t, longer) && left > 1 && !t.Failed() {
			goOn(t, longer, ints, left-1)
		}
	}
}

// The chapter's table of Compile, row by row.
func TestChapterCompile(t *testing.T) {
	for src, place := range map[string]int{
		`*a`: 0, `a**`: 2, `^*`: 1, `a\|*`: 3, `\(a`: 3, `a\`: 2, `[a`: 2, `a\{3`: 4, `a\)`: 2, `\q`: 1, `\1`: 1,
		`a\{256}`: 5, `a\{3,2}`: 6, `[c-a]`: 3, `\%U110000`: 4, `\%U10g`: 5,
	} {
		refused(t, spell(src), place, api.ErrPattern)
	}
	refused(t, spell(`\%(\%(a\{99}\)\{99}\)`), 0, api.ErrBig)
	nothing := must(t, nil, false)
	for at := range 4 {
		if m, ok := nothing.Match(spell("a.b"), at); !ok || m != match(at, at) {
			t.Errorf("nothing, from %d: %v, %v", at, m, ok)
		}
	}
}

// The places that P1004 names behind its table, and others of their kinds.
func TestNamedPlaces(t *testing.T) {
	nine := strings.Repeat(`\(\)`, 9)
	for _, c := range []struct {
		src   string
		place int
	}{
		// a number that grows above 255
		{`a\{255`, 6}, {`a\{256`, 5}, {`a\{2560`, 5}, {`a\{999}`, 5}, {`a\{0000256}`, 9}, {`a\{1,256}`, 7}, {`a\{-300}`, 6}, {`a\{,-}`, 4}, {`a\{--}`, 4}, {`a\{3,4,}`, 6}, {`a\{ 3}`, 3}, {`a\{3 }`, 4}, {`a\{3\}`, 4}, {`a\{\}`, 3}, {`a\{`, 3}, {`a\{-`, 4}, {`a\{3,`, 5},
		// least above most
		{`a\{3,2}*`, 6}, {`a\{-3,2}`, 7}, {`a\{1,0}`, 6}, {`a\{255,254}`, 10}, {`a\{0003,02}`, 10}, {`a\{3,2x`, 6},
		// above 10FFFF
		{`\%U2`, 3}, {`\%U9`, 3}, {`\%Uf`, 3}, {`\%U11`, 4}, {`\%U1f`, 4}, {`\%U1g`, 4}, {`\%U0`, 4}, {`\%U10FFF`, 8},
		{`\%u12`, 5}, {`\%u12g`, 5}, {`\%uU`, 3}, {`\%u`, 3}, {`\%U`, 3}, {`\%`, 2}, {`\%x`, 2}, {`\%%`, 2}, {`\%)`, 2}, {`\%d`, 2},
		// stretches
		{`[a-\d]`, 4}, {`[a-\w]`, 4}, {`[a-\q]`, 4}, {`[a-\xFF]`, 6}, {`[a-\xF]`, 6}, {`[a-\xg]`, 5}, {`[b-a]`, 3}, {`[b-\]]`, 4}, {`[\]-\\]`, 5}, {`[\xFF-\x00]`, 9}, {`[\x00-a]`, 6}, {`[a--]`, 3}, {`[a-^-]`, 3}, {`[b-ac-`, 3}, {`[a-b-a-9]`, 7}, {`[a-\t]`, 4}, {`[a-\e`, 4}, {`[\e-\t]`, 5},
		// brackets that aren't closed, and what may not stand between them
		{`[`, 1}, {`[]`, 2}, {`[^`, 2}, {`[^]`, 3}, {`[]^`, 3}, {`[a-`, 3}, {`[\`, 2}, {`[\]`, 3}, {`[a\]`, 4}, {`[a-\]`, 4}, {`[A-\]`, 5}, {`[a-\]]`, 4}, {`[-`, 2}, {`[\.]`, 2}, {`[\D]`, 2}, {`[\S]`, 2}, {`[\W]`, 2}, {`[\n]`, 2}, {`[\[]`, 2}, {`[\*]`, 2}, {`[\%u0041]`, 2}, {`[\x4]`, 4}, {`[\x]`, 3}, {`[\(]`, 2}, {`[\1]`, 2},
		// a tenth group
		{nine + `\(`, 37}, {nine + `\(\)`, 37}, {nine + `\%(\(`, 40}, {nine + `\`, 37}, {nine + `\%(`, 39}, {strings.Repeat(`\(`, 10), 19}, {strings.Repeat(`\(`, 9), 18}, {nine + `*\(`, 38},
		// what closes nothing
		{`\)`, 1}, {`\(\)\)`, 5}, {`\%(a\)\)`, 7}, {`\(\|\)\|\)`, 9}, {`a*\)`, 3}, {`^\)`, 2},
		// a backslash with what may not stand behind it
		{`\`, 1}, {`\a`, 1}, {`\z`, 1}, {`\A`, 1}, {`\L`, 1}, {`\U`, 1}, {`\T`, 1}, {`\E`, 1}, {`\X`, 1}, {`\n`, 1}, {`\r`, 1}, {`\0`, 1}, {`\9`, 1}, {`\x`, 2}, {`\x4`, 3}, {`\xg0`, 2}, {`\x4g`, 3}, {`\x-1`, 2},
		// times with nothing to be taken
		{`*`, 0}, {`\+`, 1}, {`\?`, 1}, {`\{`, 1}, {`\{3}`, 1}, {`\(*`, 2}, {`\%(*`, 3}, {`\(\+`, 3}, {`a\|\?`, 4}, {`\(a\|*`, 5}, {`$*`, 1}, {`$\+`, 2}, {`\<*`, 2}, {`\>\{`, 3}, {`^\?`, 2}, {`a*\+`, 3}, {`a\+*`, 3}, {`a\?\?`, 4}, {`a\{}*`, 4}, {`a\{}\{`, 5}, {`\(a\)**`, 6}, {`[*]**`, 4},
		// groups that aren't closed
		{`\(`, 2}, {`\%(`, 3}, {`\(a\|`, 5}, {`\(\%(\)`, 7}, {`\(\(a\)*`, 8}, {`\(\`, 3}, {`a\|\`, 4},
	} {
		refused(t, spell(c.src), c.place, api.ErrPattern)
	}
}

// What has the form, however odd it looks.
func TestWellFormed(t *testing.T) {
	for _, src := range []string{
		"", `\|`, `\|\|`, `\(\)`, `\(\|\)`, `\%(\)`, `\%(\)*`, `\(\)\{3,}`, "^^", "$^", "a^b$c", `^$`, `\<\>`, "]", "}", "{", "-", "]*", "(*", "|+?", `\\`, `\.`, `\*`, `\[`, `\]`, `\^`, `\$`, `\}`, `\-`, `\/`, `\_`, `\&`, `\~`, `\"`, `\,*`,
		`a\{}`, `a\{,}`, `a\{-}`, `a\{-,}`, `a\{3}`, `a\{-3}`, `a\{3,}`, `a\{-3,}`, `a\{,3}`, `a\{-,3}`, `a\{3,5}`, `a\{-3,5}`, `a\{0}`, `a\{,0}`, `a\{0,0}`, `a\{255,255}`, `a\{00000000000000000255}`, `a\{000,0001}`,
		"[]]", "[^]]", "[^^]", "[^-]", "[-]", "[--]", "[---]", "[a-]", "[-a]", "[]-]", "[]-a]", "[^]-a]", "[a-c-e]", "[a-c-]", `[\d-a]`, `[\d-]`, `[\-a]`, `[a\-z]`, `[A-\]]`, `[\]-a]`, `[*.$^]`, "[[]", `[a-a]`, `[\x41-\xFF]`, `[\x00-\x00]`, `[\\-\]]`, `[\t-\e]`, `[\d\s\w\l\u]`, `[+--]`, `[,--0]`, `[a-c--.]`, `[ -~]`,
		`\%u0000`, `\%uFFFF`, `\%ud800`, `\%U000000`, `\%U10FFFF`, `\%U10ffff`, `\%U0FFFFF`, `\x00\xff\xAb`, `\t\e`,
		strings.Repeat(`\(`, 9) + strings.Repeat(`\)`, 9), strings.Repeat(`\%(`, 40) + strings.Repeat(`\)`, 40),
	} {
		must(t, spell(src), false)
		must(t, spell(src), true)
	}
	for _, x := range []int{math.MinInt, -257, -256, -1, 0, 9, 10, 13, 127, 0xD800, 0x10FFFF, 0x110000, 1<<32 + '*', 1<<32 + '\\', math.MaxInt} {
		must(t, []int{x}, false)
		must(t, []int{x, '*'}, false)
		must(t, []int{'\\', x}, true)
		must(t, []int{'[', x, ']'}, false)
		refused(t, []int{'[', '\\', x, ']'}, 2, api.ErrPattern)
		refused(t, []int{'\\', 'x', x}, 2, api.ErrPattern)
		refused(t, []int{'a', '\\', '{', x}, 3, api.ErrPattern)
		refused(t, []int{'\\', '%', x}, 2, api.ErrPattern)
	}
}

// P1004: too long is told ahead of everything else, and at 0.
func TestTooLong(t *testing.T) {
	for _, s := range []string{"a", "*", `\`, "[", `\(`, `\)`, `a\{255}`} {
		long := spell(strings.Repeat(s, 300))
		refused(t, long[:257], 0, api.ErrLong)
		refused(t, long, 0, api.ErrLong)
	}
	must(t, spell(strings.Repeat("a", 256)), false)
	must(t, spell(strings.Repeat("a", 250)+`\{255}`), false)
	refused(t, spell(strings.Repeat("a", 255)+`\`), 256, api.ErrPattern)
	refused(t, spell(strings.Repeat("*", 256)), 0, api.ErrPattern)
}

// P1004: parts.
func TestParts(t *testing.T) {
	rep := strings.Repeat
	for _, c := range []struct {
		src string
		big bool
	}{
		{rep(`a\{255}`, 16), false}, {rep(`a\{255}`, 16) + "a", true}, {rep(`a\{255}`, 16) + "^", true}, {rep(`a\{255}`, 16) + `\|`, true}, {rep(`a\{255}`, 16) + `\%(\)`, false}, {rep(`a\{255}`, 16) + `\(\)`, true},
		{rep(`a\{254,}`, 16), false}, {rep(`a\{254,}`, 16) + "$", true}, {rep(`a\{-,255}`, 16), false}, {rep(`a\{-,255}`, 16) + ".", true},
		{`\%(\%(a\{63}\)\{63}\)`, false}, // 4033
		{`\%(a\{63}\)\{64}`, true},       // 4097
		{`\%(a\{64}\)\{63}`, false},      // 4096
		{`\%(a\{64}\)\{63}\|`, true},
		{`\(a\{62}\)\{63}`, false}, // 4096: two more for the group
		{`\(a\{62}\)\{63}b`, true},
		{`\%(a\{4}\|b\{4}\)\{255}`, false}, // 2806
		{`\%(a\{7}\|b\{7}\)\{255}`, true},  // 4336
		{`\%(abcdefghijklmnop\)\{255}` + rep("a", 15), false}, {`\%(abcdefghijklmnop\)\{255}` + rep("a", 16), true},
		{`\%(abcdefghijklmnop\)\{254,}` + rep("a", 15), false}, {`\%(abcdefghijklmnop\)\{254,}` + rep("a", 16), true},
		{`\%(a\{255}\)\{0}\%(a\{255}\)\{,0}` + rep(`a\{255}`, 13) + `a\{253}`, false}, // one time counts where there is none
		{`\%(a\{255}\)\{0}\%(a\{255}\)\{,0}` + rep(`a\{255}`, 13) + `a\{254}`, true},
		{`\%(a\{255}\)\{16}`, true}, {`\%(a\{255}\)\{0}`, false}, {`\%(\%(a\{255}\)\{16}\)\{0}`, true},
		{`\%(\)\{255}`, false}, {`\%(\%(\)\{255}\)\{255}`, false}, {`\%(\%(\%(\)\{255}\)\{63}\)\{63}`, false}, {`\%(\%(\%(\)\{255}\)\{63}\)\{64}`, true},
		{`\(\)\{255}`, false}, {`\%(\(\)\{255}\)\{8}`, false}, {`\%(\(\)\{255}\)\{9}`, true},
		{rep(`\%(`, 10) + "a" + rep(`\)\{128}`, 10), true}, {rep(`\%(`, 21) + "a" + rep(`\)\{255}`, 21), true}, {rep(`\%(`, 40) + "a" + rep(`\)*`, 40), false}, {rep(`\%(`, 12) + "a" + rep(`\)\+`, 12), true}, {rep(`\%(`, 11) + "a" + rep(`\)\+`, 11), false},
	} {
		src := spell(c.src)
		if len(src) > api.MaxPat {
			t.Fatalf("%q is too long for a test: %d", c.src, len(src))
		}
		if parts := plainOf(src).parts(); parts > api.MaxParts != c.big {
			t.Errorf("%q has %v parts", c.src, parts)
		}
		if c.big {
			refused(t, src, 0, api.ErrBig)
		} else {
			must(t, src, false)
		}
	}
	// An ill-formed one is refused as such, however many parts it would have.
	refused(t, spell(`\%(\%(a\{99}\)\{99}\)*\(`), 24, api.ErrPattern)
	refused(t, spell(`\%(\%(a\{99}\)\{99}\)**`), 22, api.ErrPattern)
}

// P1004: Groups.
func TestGroups(t *testing.T) {
	for src, want := range map[string]int{
		"": 0, `\%(a\)`: 0, `\(a\)`: 1, `\(\(\)\|\(\)\)*`: 3, `\%(\(a\)\)\{0}`: 1, `[\\(]`: 0, `\\(`: 0, strings.Repeat(`\(a\)\?`, 9): 9,
	} {
		if got := must(t, spell(src), false).Groups(); got != want {
			t.Errorf("Groups of %q: %d, want %d", src, got, want)
		}
	}
	line := spell("123456789")
	p, _, _ := pattern.Compile(spell(`\(.\(.\(.\)\)\)\(.\)\%(\(.\)\)\(\(.\)\(.\)\(.\)\)`), false)
	if m, ok := p.Match(line, 0); !ok || m != match(0, 8, 0, 3, 1, 3, 2, 3, 3, 4, 4, 5, 5, 8, 5, 6, 6, 7, 7, 8) {
		t.Errorf("groups are numbered as they stand: %v, %v", m, ok)
	}
}
