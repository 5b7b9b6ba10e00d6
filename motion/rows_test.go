package motion_test

import (
	"math"
	"testing"

	"copyist/api"
	"copyist/motion"
)

func row(at, goal int) api.Land { return land(at, api.Linewise, goal) }

// The lines 0 2 3, 3 3 4, 4 8 9 and the tail at 9.
const verse = "ab\n\n  cd\n"

func TestDownAndUp(t *testing.T) {
	hold(t, encodings, verse, rows(1),
		ask{0, mv(api.MDown, 0, 0), row(3, 1), 0}, ask{1, mv(api.MDown, -3, 0), row(3, 1), 0}, ask{0, mv(api.MDown, 2, 0), row(5, 1), 0}, ask{0, mv(api.MDown, 3, 0), row(5, 1), 0}, ask{2, mv(api.MDown, math.MaxInt, 0), row(5, 1), 0},
		ask{4, mv(api.MDown, 0, 0), noLand, api.ErrMove}, ask{9, mv(api.MDown, 9, 0), noLand, api.ErrMove}, ask{math.MaxInt, mv(api.MDown, 1, 0), noLand, api.ErrMove},
		ask{9, mv(api.MUp, 0, 0), row(3, 1), 0}, ask{8, mv(api.MUp, 2, 0), row(1, 1), 0}, ask{4, mv(api.MUp, 3, 0), row(1, 1), 0}, ask{4, mv(api.MUp, 9999, 0), row(1, 1), 0},
		ask{2, mv(api.MUp, 0, 0), noLand, api.ErrMove}, ask{math.MinInt, mv(api.MUp, 5, 0), noLand, api.ErrMove},
	)
	for _, c := range []struct{ goal, taken, down, up int }{{math.MinInt, 0, 4, 0}, {-1, 0, 4, 0}, {0, 0, 4, 0}, {2, 2, 6, 1}, {3, 3, 7, 1}, {4, 4, 7, 1}, {api.MaxCol, api.MaxCol, 7, 1}, {math.MaxInt, math.MaxInt, 7, 1}} {
		hold(t, encodings, verse, rows(c.goal), ask{0, mv(api.MDown, 2, 0), row(c.down, c.taken), 0}, ask{9, mv(api.MUp, 2, 0), row(c.up, c.taken), 0}, ask{3, mv(api.MUp, 0, 0), row(c.up, c.taken), 0}, ask{0, mv(api.MDown, 1, 0), row(3, c.taken), 0})
	}
	hold(t, wide, "abc\ne\u0301e\u0301\n\u0301", rows(1), ask{0, mv(api.MDown, 1, 0), row(6, 1), 0}, ask{0, mv(api.MDown, 2, 0), row(9, 1), 0}, ask{9, mv(api.MUp, 1, 0), row(6, 1), 0})
}

// The other motions look at no goal, and go to the first sign.
func TestToFirstSigns(t *testing.T) {
	for _, goal := range []int{math.MinInt, 0, 1, math.MaxInt} {
		hold(t, encodings, verse, rows(goal),
			ask{0, mv(api.MNextRow, 0, 0), row(3, 0), 0}, ask{0, mv(api.MNextRow, 2, 0), row(6, 2), 0}, ask{0, mv(api.MNextRow, 3, 0), row(6, 2), 0}, ask{0, mv(api.MNextRow, math.MaxInt, 0), row(6, 2), 0}, ask{9, mv(api.MNextRow, 0, 0), noLand, api.ErrMove},
			ask{9, mv(api.MPrevRow, 0, 0), row(3, 0), 0}, ask{4, mv(api.MPrevRow, 2, 0), row(0, 0), 0}, ask{4, mv(api.MPrevRow, 3, 0), row(0, 0), 0}, ask{1, mv(api.MPrevRow, 0, 0), noLand, api.ErrMove},
			ask{9, mv(api.MHere, 0, 0), row(6, 2), 0}, ask{4, mv(api.MHere, 1, 0), row(6, 2), 0}, ask{1, mv(api.MHere, 0, 0), row(0, 0), 0}, ask{0, mv(api.MHere, 2, 0), row(3, 0), 0}, ask{0, mv(api.MHere, 3, 0), row(6, 2), 0}, ask{0, mv(api.MHere, 4, 0), row(6, 2), 0}, ask{9, mv(api.MHere, 9999, 0), row(6, 2), 0},
			ask{0, mv(api.MGoto, 0, 0), row(6, 2), 0}, ask{0, mv(api.MGoto, -1, 0), row(6, 2), 0}, ask{9, mv(api.MGoto, 1, 0), row(0, 0), 0}, ask{9, mv(api.MGoto, 2, 0), row(3, 0), 0}, ask{0, mv(api.MGoto, 3, 0), row(6, 2), 0}, ask{0, mv(api.MGoto, 4, 0), row(6, 2), 0}, ask{0, mv(api.MGoto, math.MaxInt, 0), row(6, 2), 0},
			ask{9, mv(api.MTopRow, 0, 0), row(0, 0), 0}, ask{9, mv(api.MTopRow, -1, 0), row(0, 0), 0}, ask{9, mv(api.MTopRow, 2, 0), row(3, 0), 0}, ask{0, mv(api.MTopRow, 3, 0), row(6, 2), 0}, ask{0, mv(api.MTopRow, 99, 0), row(6, 2), 0},
		)
	}
	hold(t, encodings, "\n \t ", rows(0), ask{0, mv(api.MNextRow, 0, 0), row(3, 2), 0}, ask{3, mv(api.MGoto, 1, 0), row(0, 0), 0})
	hold(t, wide, " \u0301.\n", rows(0), ask{3, mv(api.MHere, 0, 0), row(2, 1), 0})
}

func TestPercent(t *testing.T) {
	hold(t, encodings, verse, rows(1),
		ask{9, mv(api.MPercent, 1, 0), row(0, 0), 0}, ask{9, mv(api.MPercent, 33, 0), row(0, 0), 0}, ask{9, mv(api.MPercent, 34, 0), row(3, 0), 0}, ask{0, mv(api.MPercent, 66, 0), row(3, 0), 0}, ask{0, mv(api.MPercent, 67, 0), row(6, 2), 0}, ask{0, mv(api.MPercent, 100, 0), row(6, 2), 0},
		ask{0, mv(api.MPercent, 0, 0), noLand, api.ErrMove}, ask{0, mv(api.MPercent, -1, 0), noLand, api.ErrMove}, ask{0, mv(api.MPercent, math.MinInt, 0), noLand, api.ErrMove}, ask{0, mv(api.MPercent, 101, 0), noLand, api.ErrMove}, ask{0, mv(api.MPercent, 9999, 0), noLand, api.ErrMove}, ask{0, mv(api.MPercent, math.MaxInt, 0), noLand, api.ErrMove},
	)
	hold(t, encodings, "abc", rows(1), ask{2, mv(api.MPercent, 1, 0), row(0, 0), 0}, ask{2, mv(api.MPercent, 100, 0), row(0, 0), 0})
}

func TestRowsOfOneLine(t *testing.T) {
	for _, text := range []string{"", "\n", "\r\n", "\r"} {
		hold(t, encodings, text, rows(3),
			ask{0, mv(api.MDown, 0, 0), noLand, api.ErrMove}, ask{9, mv(api.MUp, 0, 0), noLand, api.ErrMove}, ask{9, mv(api.MNextRow, 0, 0), noLand, api.ErrMove}, ask{9, mv(api.MPrevRow, 0, 0), noLand, api.ErrMove},
			ask{9, mv(api.MHere, 9, 0), row(0, 0), 0}, ask{9, mv(api.MGoto, 0, 0), row(0, 0), 0}, ask{9, mv(api.MTopRow, 9, 0), row(0, 0), 0}, ask{9, mv(api.MPercent, 50, 0), row(0, 0), 0},
		)
	}
}

// Each call knows its own kinds and no other; that goes ahead of having nowhere to go.
func TestUnknownKinds(t *testing.T) {
	for name, c := range map[string]struct {
		f   call
		own []int
	}{
		"Chars": {chars(false), charKinds}, "Chars past": {chars(true), charKinds},
		"Rows":  {rows(2), rowKinds},
		"Words": {words(false), wordKinds}, "Words past": {words(true), wordKinds},
		"Paras": {motion.Paras, paraKinds},
	} {
		known := map[int]bool{}
		for _, kind := range c.own {
			known[kind] = true
		}
		for _, text := range []string{"", "ab\n", page} {
			x := load(t, api.UTF8, spell(text))
			for kind := -2; kind < 80; kind++ {
				if _, e := c.f(x, 0, mv(kind, 1, 'b')); (e == api.ErrArg) == known[kind] {
					t.Errorf("%s of %q knows the kind %d: %v", name, text, kind, e != api.ErrArg)
				}
			}
			for _, kind := range none {
				if got, e := c.f(x, 0, mv(kind, 9, 0)); got != noLand || e != api.ErrArg {
					t.Errorf("%s of %q, kind %d: %+v, %d", name, text, kind, got, e)
				}
			}
			if got, e := c.f(x, 0, mv(api.MLines, 0, 0)); got != noLand || e != api.ErrArg {
				t.Errorf("%s of %q knows MLines: %+v, %d", name, text, got, e)
			}
		}
	}
}
