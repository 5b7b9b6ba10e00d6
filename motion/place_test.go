package motion_test

import (
	"math"
	"testing"

	"copyist/api"
	"copyist/motion"
	"copyist/piece"
)

// stop is an offset, where it is clamped to, not past and past, and its column.
type stop struct{ at, not, past, col int }

func stops(t *testing.T, x *piece.Text, what string, all ...stop) {
	t.Helper()
	for _, s := range all {
		not, past, col := motion.Clamp(x, s.at, false), motion.Clamp(x, s.at, true), motion.Column(x, s.at)
		if got := (stop{s.at, not, past, col}); got != s {
			t.Errorf("encoding %d, %s: %+v, want %+v", x.Enc(), what, got, s)
		}
	}
}

func TestStops(t *testing.T) {
	for _, enc := range encodings {
		for text, all := range map[string][]stop{
			"":          {{math.MinInt, 0, 0, 0}, {-1, 0, 0, 0}, {0, 0, 0, 0}, {1, 0, 0, 0}, {math.MaxInt, 0, 0, 0}},
			"a":         {{math.MinInt, 0, 0, 0}, {0, 0, 0, 0}, {1, 0, 1, 1}, {2, 0, 1, 1}, {math.MaxInt, 0, 1, 1}},
			"ab\n":      {{-1, 0, 0, 0}, {1, 1, 1, 1}, {2, 1, 2, 2}, {3, 1, 3, 0}, {4, 1, 3, 0}, {math.MaxInt, 1, 3, 0}},
			"\n":        {{-1, 0, 0, 0}, {0, 0, 0, 0}, {1, 0, 1, 0}, {2, 0, 1, 0}},
			"\r\n":      {{0, 0, 0, 0}, {1, 0, 0, 0}, {2, 0, 2, 0}, {3, 0, 2, 0}},
			"ab\r\ncd":  {{1, 1, 1, 1}, {2, 1, 2, 2}, {3, 1, 2, 2}, {4, 4, 4, 0}, {5, 5, 5, 1}, {6, 5, 6, 2}},
			"a\r\n\r\n": {{1, 0, 1, 1}, {2, 0, 1, 1}, {3, 3, 3, 0}, {4, 3, 3, 0}, {5, 3, 5, 0}},
			"\n\na":     {{0, 0, 0, 0}, {1, 1, 1, 0}, {2, 2, 2, 0}, {3, 2, 3, 1}},
			"a\n\r":     {{1, 0, 1, 1}, {2, 2, 2, 0}, {3, 2, 3, 0}},
			" \t \n":    {{0, 0, 0, 0}, {2, 2, 2, 2}, {3, 2, 3, 3}, {4, 2, 4, 0}},
		} {
			stops(t, load(t, enc, spell(text)), text, all...)
		}
	}
}

func TestStopsOnClusters(t *testing.T) {
	for _, enc := range wide {
		for text, all := range map[string][]stop{
			"e\u0301\u0302x":                       {{0, 0, 0, 0}, {1, 0, 0, 0}, {2, 0, 0, 0}, {3, 3, 3, 1}, {4, 3, 4, 2}},
			"a\n\u0301b":                           {{1, 0, 1, 1}, {2, 2, 2, 0}, {3, 3, 3, 1}, {4, 3, 4, 2}},
			"\u0301\r\n":                           {{0, 0, 0, 0}, {1, 0, 1, 1}, {2, 0, 1, 1}, {3, 0, 3, 0}},
			"xe\u0301":                             {{1, 1, 1, 1}, {2, 1, 1, 1}, {3, 1, 3, 2}, {4, 1, 3, 2}},
			"\U0001F1E6\U0001F1E7\U0001F1E8":       {{0, 0, 0, 0}, {1, 0, 0, 0}, {2, 2, 2, 1}, {3, 2, 3, 2}},
			"\U0001F468\u200D\U0001F469\n":         {{2, 0, 0, 0}, {3, 0, 3, 1}, {4, 0, 4, 0}},
			"\u0915\u094D\u0915\u0915":             {{2, 0, 0, 0}, {3, 3, 3, 1}, {4, 3, 4, 2}},
			"\u1100\u1161\u11A8\u0600a\r\u0301\r":  {{2, 0, 0, 0}, {3, 3, 3, 1}, {4, 3, 3, 1}, {5, 3, 5, 2}, {6, 6, 6, 0}, {7, 6, 7, 1}, {8, 6, 8, 0}},
			"\U0001F1E6\n\U0001F1E7\U0001F1E8\r\n": {{1, 0, 1, 1}, {2, 2, 2, 0}, {3, 2, 2, 0}, {4, 2, 4, 1}, {5, 2, 4, 1}, {6, 2, 6, 0}},
		} {
			stops(t, load(t, enc, spell(text)), text, all...)
		}
	}
}

// Raw bytes and lone units are clusters of their own; an accent behind one too.
func TestStopsOnRaws(t *testing.T) {
	x := load(t, api.UTF8, []int{-1 - 0xC3, 0x301, -1 - 0x80, -1 - 0x80})
	stops(t, x, "raw bytes", stop{0, 0, 0, 0}, stop{1, 1, 1, 1}, stop{2, 2, 2, 2}, stop{3, 3, 3, 3}, stop{4, 3, 4, 4})
	for _, enc := range []int{api.UTF16LE, api.UTF16BE} {
		x := load(t, enc, []int{0xDC00, 0x301, 0xD800, -1 - 0x0A})
		stops(t, x, "lone units, an odd byte", stop{1, 1, 1, 1}, stop{2, 2, 2, 2}, stop{3, 3, 3, 3}, stop{4, 3, 4, 4})
	}
}

func TestPlace(t *testing.T) {
	for _, enc := range encodings {
		for _, c := range []struct {
			text            string
			line, col       int
			not, pastPlaces int
		}{
			{"", 0, 0, 0, 0}, {"", math.MaxInt, math.MaxInt, 0, 0}, {"", math.MinInt, math.MinInt, 0, 0},
			{"abc", 0, math.MinInt, 0, 0}, {"abc", 0, -1, 0, 0}, {"abc", 0, 0, 0, 0}, {"abc", 0, 2, 2, 2}, {"abc", 0, 3, 2, 3}, {"abc", 0, 4, 2, 3}, {"abc", 0, math.MaxInt, 2, 3},
			{"ab\r\n\ncd\n", -1, 1, 1, 1}, {"ab\r\n\ncd\n", math.MinInt, 2, 1, 2}, {"ab\r\n\ncd\n", 0, 2, 1, 2}, {"ab\r\n\ncd\n", 1, 0, 4, 4}, {"ab\r\n\ncd\n", 1, 7, 4, 4},
			{"ab\r\n\ncd\n", 2, 1, 6, 6}, {"ab\r\n\ncd\n", 2, 2, 6, 7}, {"ab\r\n\ncd\n", 3, 0, 5, 5}, {"ab\r\n\ncd\n", 3, 9, 6, 7}, {"ab\r\n\ncd\n", math.MaxInt, 1, 6, 6},
			{"\n", 1, 0, 0, 0}, {"a\nb", 1, 0, 2, 2}, {"a\nb", 2, 1, 2, 3},
		} {
			x := load(t, enc, spell(c.text))
			if not, past := motion.Place(x, c.line, c.col, false), motion.Place(x, c.line, c.col, true); not != c.not || past != c.pastPlaces {
				t.Errorf("encoding %d, %q: Place(%d, %d): %d, past %d, want %d, past %d", enc, c.text, c.line, c.col, not, past, c.not, c.pastPlaces)
			}
		}
	}
	for _, enc := range wide {
		x := load(t, enc, spell("e\u0301x\n\u0301\U0001F1E6\U0001F1E7\n"))
		for _, c := range [][3]int{{0, 1, 2}, {0, 2, 3}, {1, 0, 4}, {1, 1, 5}, {1, 2, 7}, {1, 3, 7}} {
			if got := motion.Place(x, c[0], c[1], true); got != c[2] {
				t.Errorf("encoding %d: Place(%d, %d, true): %d, want %d", enc, c[0], c[1], got, c[2])
			}
		}
	}
}
