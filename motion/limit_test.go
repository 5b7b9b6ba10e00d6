package motion_test

import (
	"math"
	"strings"
	"testing"

	"copyist/api"
	"copyist/motion"
)

// A count above MaxCount is MaxCount, also where there is more to go.
func TestMaxCount(t *testing.T) {
	t.Parallel()
	row1 := strings.Repeat("a", 12000)
	above := []int{api.MaxCount, api.MaxCount + 1, 11000, 1 << 40, math.MaxInt}
	for _, k := range above {
		hold(t, encodings, row1, chars(false),
			ask{0, mv(api.MRight, k, 0), ex(9999), 0}, ask{11999, mv(api.MLeft, k, 0), ex(2000), 0}, ask{0, mv(api.MBar, k, 0), ex(9998), 0},
			ask{0, mv(api.MFind, k, 'a'), in(9999), 0}, ask{0, mv(api.MTill, k, 'a'), in(9998), 0}, ask{11999, mv(api.MFindBack, k, 'a'), ex(2000), 0}, ask{11999, mv(api.MTillBack, k, 'a'), ex(2001), 0},
		)
	}
	hold(t, encodings, row1, chars(false), ask{0, mv(api.MRight, 9998, 0), ex(9998), 0}, ask{11999, mv(api.MLeft, 9998, 0), ex(2001), 0})
	lines := strings.Repeat("\n", 12000)
	for _, k := range above {
		hold(t, encodings, lines, chars(false), ask{0, mv(api.MEnd, k, 0), end(9998), 0})
		hold(t, encodings, lines, rows(0),
			ask{0, mv(api.MDown, k, 0), row(9999, 0), 0}, ask{11999, mv(api.MUp, k, 0), row(2000, 0), 0}, ask{0, mv(api.MNextRow, k, 0), row(9999, 0), 0}, ask{11999, mv(api.MPrevRow, k, 0), row(2000, 0), 0},
			ask{0, mv(api.MHere, k, 0), row(9998, 0), 0}, ask{0, mv(api.MGoto, k, 0), row(9998, 0), 0}, ask{0, mv(api.MTopRow, k, 0), row(9998, 0), 0},
		)
		hold(t, encodings, lines, words(false), ask{0, mv(api.MWord, k, 0), land(9999, 0, 0), 0}, ask{11999, mv(api.MBack, k, 0), land(2000, 0, 0), 0}, ask{11999, mv(api.MBackEnd, k, 0), land(2000, 1, 0), 0})
		takes(t, encodings, lines, taken{0, mv(api.MLines, k, 0), byLines(0, 9999), 0}, taken{0, mv(api.MWord, k, 0), byChars(0, 9998), 0})
	}
	signs := strings.Repeat("a.", 6000)
	for _, k := range above {
		hold(t, encodings, signs, words(true), ask{0, mv(api.MWord, k, 0), ex(9999), 0}, ask{0, mv(api.MWordEnd, k, 0), in(9999), 0}, ask{0, mv(api.MRest, k, 0), in(9998), 0}, ask{12000, mv(api.MBack, k, 0), ex(2001), 0}, ask{11999, mv(api.MBackEnd, k, 0), in(2000), 0})
	}
	gaps := strings.Repeat("a\n\n", 10500)
	for _, k := range above {
		hold(t, encodings, gaps, motion.Paras, ask{0, mv(api.MParaNext, k, 0), land(9998*3+2, 0, 0), 0}, ask{31498, mv(api.MParaPrev, k, 0), land(10498*3+2-9998*3, 0, 0), 0})
	}
}

// Texts as long as they may be are answered, wherever one asks.
func TestFullTexts(t *testing.T) {
	t.Parallel()
	for name, text := range map[string]string{
		"letters":  strings.Repeat("a", 65536),
		"blanks":   strings.Repeat(" ", 65536),
		"lines":    strings.Repeat("\n", 65536),
		"breaks":   strings.Repeat("\r\n", 32768),
		"accents":  "a" + strings.Repeat("\u0301", 32767),
		"flags":    strings.Repeat("\U0001F1E6", 16384),
		"families": strings.Repeat("\U0001F468\u200D", 9362),
		"conjunct": strings.Repeat("\u0915\u094D", 10922),
	} {
		atoms := spell(text)
		x, n := load(t, api.UTF8, atoms), len(atoms)
		d := read(atoms)
		for _, at := range []int{0, 1, n / 2, n - 1, n} {
			for _, past := range []bool{false, true} {
				if got, want := motion.Clamp(x, at, past), d.clamp(at, past); got != want {
					t.Errorf("%s: Clamp(%d, %v): %d, want %d", name, at, past, got, want)
				}
			}
			if got, want := motion.Column(x, at), d.column(at); got != want {
				t.Errorf("%s: Column(%d): %d, want %d", name, at, got, want)
			}
			for _, m := range []api.Move{mv(api.MRight, 0, 0), mv(api.MLeft, 0, 0), mv(api.MEnd, 0, 0)} {
				if got, e := motion.Chars(x, at, m, true); (answer{got, e}) != d.chars(at, m, true) {
					t.Errorf("%s: Chars(%d, %+v): %+v, %d", name, at, m, got, e)
				}
			}
		}
	}
}
