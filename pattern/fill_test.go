package pattern_test

import (
	"math"
	"math/rand"
	"slices"
	"strings"
	"testing"

	"copyist/api"
	"copyist/glyph"
	"copyist/pattern"
)

// plainFill is P1010 without the limits: what is written at the beginning of rep decides, and is taken off.
func plainFill(rep, line []int, m [20]int) ([]int, bool) {
	var out []int
	once, always := 0, 0
	give := func(ints ...int) {
		for _, x := range ints {
			turn := always
			if once != 0 {
				turn, once = once, 0
			}
			switch turn {
			case 1:
				x = glyph.Upper(x)
			case 2:
				x = glyph.Lower(x)
			}
			out = append(out, x)
		}
	}
	group := func(g int) {
		for i, x := range line {
			if m[2*g] <= i && i < m[2*g+1] {
				give(x)
			}
		}
	}
	for len(rep) > 0 {
		first := rep[0]
		rep = rep[1:]
		if first == '&' {
			group(0)
			continue
		}
		if first != '\\' {
			give(first)
			continue
		}
		if len(rep) == 0 {
			return nil, false
		}
		c := rep[0]
		rep = rep[1:]
		switch {
		case '0' <= c && c <= '9':
			group(c - '0')
		case c == 'n' || c == 'r':
			give(10)
		case c == 't':
			give(9)
		case c == 'e':
			give(27)
		case c == 'x':
			f := form{src: rep}
			n := f.hexAt(0, 2)
			if n < 0 {
				return nil, false
			}
			give(-1 - n)
			rep = rep[2:]
		case c == 'u':
			once = 1
		case c == 'l':
			once = 2
		case c == 'U':
			always = 1
		case c == 'L':
			always = 2
		case c == 'E':
			always = 0
		case 'a' <= c && c <= 'z' || 'A' <= c && c <= 'Z':
			return nil, false
		default:
			give(c)
		}
	}
	return out, true
}

func fills(t *testing.T, rep string, line []int, m [20]int, want []int) {
	t.Helper()
	if got, e := pattern.Fill(spell(rep), line, m); e != api.OK || !slices.Equal(got, want) {
		t.Errorf("Fill(%q, %q, %v): %q %v, %d, want %q", rep, text(line), m, text(got), got, e, text(want))
	}
}

func noFill(t *testing.T, rep []int, line []int, m [20]int, want api.Errno) {
	t.Helper()
	if got, e := pattern.Fill(rep, line, m); e != want || len(got) != 0 {
		t.Errorf("Fill(%q, %d ints): %d ints, %d, want %d", text(rep), len(line), len(got), e, want)
	}
}

// P1010: the chapter's examples, and each row of the table.
func TestFill(t *testing.T) {
	key := spell("key=v")
	m := match(0, 5, 0, 3)
	for rep, want := range map[string]string{
		`<&>\1\n`: "<key=v>key\n", `\u\1\U=\1\E.`: "Key=KEY.",
		"": "", "&": "key=v", `\0`: "key=v", `\1`: "key", `\2`: "", `\9`: "", `\2|\9`: "|", `&&`: "key=vkey=v", `\0\1`: "key=vkey",
		`\n`: "\n", `\r`: "\n", `\t`: "\t", `\e`: "\x1b", `\n\r\n`: "\n\n\n", "\n\r": "\n\r",
		`\&`: "&", `\\`: `\`, `\.`: ".", `\/`: "/", `\~`: "~", `\-`: "-", `\ `: " ", `\é`: "é", "\\\n": "\n", `\(\)\|\{\}\[\]\^\$\*\+\?\<\>\%\_`: `()|{}[]^$*+?<>%_`, `\\n`: `\n`, `\\\n`: "\\\n", `\&&`: "&key=v",
		"a.b*c^$[]{}()|~/": "a.b*c^$[]{}()|~/", "19": "19",
		`\uabc`: "Abc", `\lABC`: "aBC", `\Uabc`: "ABC", `\LABC`: "abc", `\Uab\Ecd`: "ABcd", `\E`: "", `\Ea`: "a", `\Ua\Lb\Uc`: "AbC", `\Ua\LB`: "Ab", `\LA\EA`: "aA",
		`\u`: "", `\l`: "", `\U`: "", `\L`: "", `a\u`: "a", `\u\lA`: "a", `\l\ua`: "A", `\u\u\l\uab`: "Ab", `\u\l\uAB`: "AB",
		`\U\la`: "a", `\U\lAb`: "aB", `\L\ua`: "A", `\L\uaB`: "Ab", `\l\UAB`: "aB", `\u\Lab`: "Ab", `\u\Eab`: "Ab", `\U\l\EAb`: "ab", `\u\L\Eab`: "Ab", `\l\U\L\EAB`: "aB",
		`\u\2a`: "A", `\u\2\9&`: "Key=v", `\u&`: "Key=v", `\U&`: "KEY=V", `\U\1\E=\1`: "KEY=key", `\u\na`: "\na", `\u1a`: "1a", `\u\&a`: "&a", `\u\\a`: `\a`, `\U\é\t\n\E`: "É\t\n", `\Uß`: "ß", `\Uı`: "I", `\Lİ`: "i", `\L\u212A`: "212a",
		`\ud\ld\Ud`: "DdD", `\1\u\1\l\1`: "keyKeykey",
	} {
		fills(t, rep, key, m, spell(want))
	}
	for rep, want := range map[string][]int{
		`\x41`: {-66}, `\xff\xFF\x00`: {-256, -256, -1}, `\xC3&`: {-196, 'k', 'e', 'y', '=', 'v'}, `\u\x61a`: {-98, 'a'}, `\U\x61a`: {-98, 'A'}, `\x411`: {-66, '1'}, `\x0a\x0A`: {-11, -11},
	} {
		fills(t, rep, key, m, want)
	}
	for _, x := range []int{math.MinInt, -257, -256, -1, 0, 0xD800, 0x110000, 1<<32 + 'a', 1<<32 + '\\', math.MaxInt} {
		for _, rep := range [][]int{{x}, {'\\', x}, {'\\', 'U', x}, {'\\', 'l', '\\', x}} {
			if got, e := pattern.Fill(rep, nil, match()); e != api.OK || !slices.Equal(got, []int{x}) {
				t.Errorf("Fill(%v): %v, %d", rep, got, e)
			}
		}
	}
}

// P1010: every int behind a backslash.
func TestFillBackslash(t *testing.T) {
	for c := range 0x180 {
		rep := []int{'\\', c}
		want, ok := plainFill(rep, spell("ab"), match(0, 1, 1, 2))
		if got, e := pattern.Fill(rep, spell("ab"), match(0, 1, 1, 2)); (e == api.OK) != ok || !slices.Equal(got, want) || !ok && e != api.ErrFill {
			t.Errorf("Fill of a backslash and %d: %v, %d, want %v, %v", c, got, e, want, ok)
		}
	}
	for g := range 10 {
		m := match(7, 8)
		m[2*g], m[2*g+1] = 1, 3
		fills(t, string([]rune{'<', '\\', rune('0' + g), '>'}), spell("abcd"), m, spell("<bc>"))
	}
}

// P1010: what has not the form.
func TestFillErrors(t *testing.T) {
	for _, rep := range []string{`\`, `a\`, `\\\`, `&\`, `\u\`, `\q`, `\a`, `\z`, `\A`, `\Z`, `\d`, `\w`, `\s`, `\X41`, `\T`, `\N`, `\x`, `\x4`, `\xg0`, `\x0g`, `\x 0`, `\x\41`, `ab\x4`, `\x-1`, `abc\qdef`, `\E\F`} {
		noFill(t, spell(rep), spell("abc"), match(0, 3), api.ErrFill)
	}
	for _, rep := range [][]int{{'\\', 'x', math.MinInt, '0'}, {'\\', 'x', '0', 1<<32 + '0'}, {'\\', 'x', -48, '0'}} {
		noFill(t, rep, nil, match(), api.ErrFill)
	}
}

// P1010: the limits, and the order of the errors.
func TestFillLimits(t *testing.T) {
	rep := strings.Repeat
	fills(t, rep("q", 256), nil, match(), spell(rep("q", 256)))
	noFill(t, spell(rep("q", 257)), nil, match(), api.ErrLong)
	noFill(t, spell(rep("q", 256)+`\`), nil, match(), api.ErrLong)
	noFill(t, spell(rep(`\q`, 200)), nil, match(), api.ErrLong)
	noFill(t, spell(rep("q", 255)+`\`), nil, match(), api.ErrFill)
	long := make([]int, 70000)
	for i := range long {
		long[i] = 'a' + i%26
	}
	whole := match(0, 70000, 5, 6, 0, 69999)
	for _, c := range []struct {
		rep string
		n   int
		e   api.Errno
	}{
		{"&&", 140000, 0}, {"&&a", 0, api.ErrLong}, {`&&\1`, 0, api.ErrLong}, {`&\2\1`, 140000, 0}, {`&\2ab`, 0, api.ErrLong}, {`&&\3\u\E`, 140000, 0}, {`&&&`, 0, api.ErrLong}, {rep("&", 256), 0, api.ErrLong},
		{`&&a\q`, 0, api.ErrFill}, {`&&&\`, 0, api.ErrFill}, {rep("&", 254) + `\q`, 0, api.ErrFill}, {`\U&&`, 140000, 0}, {`\n&&`, 0, api.ErrLong},
	} {
		got, e := pattern.Fill(spell(c.rep), long, whole)
		if e != c.e || len(got) != c.n {
			t.Errorf("Fill(%q) of a long line: %d ints, %d, want %d, %d", c.rep, len(got), e, c.n, c.e)
		}
		if c.n == 0 {
			continue
		}
		if want, _ := plainFill(spell(c.rep), long, whole); !slices.Equal(got, want) {
			t.Errorf("Fill(%q) of a long line gives other ints", c.rep)
		}
	}
	fills(t, "&", make([]int, 140000), match(0, 140000), make([]int, 140000))
	noFill(t, spell("&"), make([]int, 140001), match(0, 140001), api.ErrLong)
	fills(t, "&", make([]int, 140001), match(1, 140001), make([]int, 140000))
}

// P1010: a match may be any twenty ints.
func TestFillOfAnyMatch(t *testing.T) {
	line := spell("abcde")
	edges := []int{math.MinInt, -9, -1, 0, 1, 3, 4, 5, 6, 99, math.MaxInt}
	for _, from := range edges {
		for _, to := range edges {
			var want []int
			for i, x := range line {
				if from <= i && i < to {
					want = append(want, x)
				}
			}
			for g := range 10 {
				m := match(2, 2)
				m[2*g], m[2*g+1] = from, to
				fills(t, `\`+string(rune('0'+g)), line, m, want)
				fills(t, `\`+string(rune('0'+g)), nil, m, nil)
			}
		}
	}
}

// P1010: replacements at random.
func TestFillAtRandom(t *testing.T) {
	t.Parallel()
	r := rand.New(rand.NewSource(1010))
	words := []string{"a", "B", "é", "&", `\0`, `\1`, `\2`, `\9`, `\n`, `\r`, `\t`, `\e`, `\x41`, `\u`, `\l`, `\U`, `\L`, `\E`, `\u`, `\l`, `\U`, `\L`, `\E`, `\\`, `\&`, "1"}
	for range 20000 {
		var rep []int
		for range r.Intn(9) {
			rep = append(rep, spell(words[r.Intn(len(words))])...)
		}
		if r.Intn(20) == 0 {
			rep = append(rep, spell([]string{`\`, `\x4`, `\q`, `\xq1`}[r.Intn(4)])...)
		}
		var m [20]int
		for i := range m {
			m[i] = r.Intn(9) - 2
		}
		line := spell("aBcDéÉ"[:r.Intn(5)])
		want, ok := plainFill(rep, line, m)
		if got, e := pattern.Fill(rep, line, m); !slices.Equal(got, want) || ok != (e == api.OK) || !ok && e != api.ErrFill {
			t.Fatalf("Fill(%q, %q, %v): %v, %d, want %v, %v", text(rep), text(line), m, got, e, want, ok)
		}
	}
}
