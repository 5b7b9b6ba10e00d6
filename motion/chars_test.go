package motion_test

import (
	"math"
	"testing"

	"copyist/api"
)

func ex(at int) api.Land { return land(at, api.Exclusive, at) }

func in(at int) api.Land { return land(at, api.Inclusive, at) }

func end(at int) api.Land { return land(at, api.Inclusive, api.MaxCol) }

// A line of five letters, an empty one, one with a blank.
const rhyme = "abcab\n\n x"

func TestLeftAndRight(t *testing.T) {
	hold(t, encodings, rhyme, chars(false),
		ask{4, mv(api.MLeft, 0, 0), ex(3), 0}, ask{4, mv(api.MLeft, -7, 0), ex(3), 0}, ask{4, mv(api.MLeft, math.MinInt, 0), ex(3), 0}, ask{4, mv(api.MLeft, 1, 0), ex(3), 0},
		ask{4, mv(api.MLeft, 4, 0), ex(0), 0}, ask{4, mv(api.MLeft, 5, 0), ex(0), 0}, ask{4, mv(api.MLeft, api.MaxCount, 0), ex(0), 0}, ask{4, mv(api.MLeft, math.MaxInt, 0), ex(0), 0},
		ask{0, mv(api.MLeft, 0, 0), noLand, api.ErrMove}, ask{-5, mv(api.MLeft, 3, 0), noLand, api.ErrMove}, ask{5, mv(api.MLeft, 0, 0), ex(3), 0},
		ask{6, mv(api.MLeft, 0, 0), noLand, api.ErrMove}, ask{7, mv(api.MLeft, 9, 0), noLand, api.ErrMove}, ask{8, mv(api.MLeft, 9, 0), land(7, 0, 0), 0}, ask{9, mv(api.MLeft, 0, 0), land(7, 0, 0), 0},
		ask{0, mv(api.MRight, 0, 0), ex(1), 0}, ask{0, mv(api.MRight, 4, 0), ex(4), 0}, ask{0, mv(api.MRight, 5, 0), ex(4), 0}, ask{0, mv(api.MRight, math.MaxInt, 0), ex(4), 0}, ask{-1, mv(api.MRight, 2, 0), ex(2), 0},
		ask{4, mv(api.MRight, 0, 0), noLand, api.ErrMove}, ask{5, mv(api.MRight, 9999, 0), noLand, api.ErrMove}, ask{6, mv(api.MRight, 0, 0), noLand, api.ErrMove}, ask{8, mv(api.MRight, 0, 0), noLand, api.ErrMove}, ask{99, mv(api.MRight, 0, 0), noLand, api.ErrMove},
	)
	hold(t, encodings, rhyme, chars(true),
		ask{5, mv(api.MLeft, 0, 0), ex(4), 0}, ask{5, mv(api.MLeft, 5, 0), ex(0), 0}, ask{9, mv(api.MLeft, 1, 0), land(8, 0, 1), 0}, ask{6, mv(api.MLeft, 1, 0), noLand, api.ErrMove},
		ask{0, mv(api.MRight, 4, 0), ex(4), 0}, ask{0, mv(api.MRight, 5, 0), ex(5), 0}, ask{0, mv(api.MRight, 6, 0), ex(5), 0}, ask{4, mv(api.MRight, 0, 0), ex(5), 0}, ask{5, mv(api.MRight, 0, 0), noLand, api.ErrMove},
		ask{6, mv(api.MRight, 2, 0), noLand, api.ErrMove}, ask{7, mv(api.MRight, 2, 0), land(9, 0, 2), 0}, ask{9, mv(api.MRight, 0, 0), noLand, api.ErrMove},
	)
	hold(t, wide, "e\u0301e\u0301\u0302x\r\n", chars(true),
		ask{0, mv(api.MRight, 0, 0), land(2, 0, 1), 0}, ask{1, mv(api.MRight, 2, 0), land(5, 0, 2), 0}, ask{4, mv(api.MRight, 9, 0), land(6, 0, 3), 0},
		ask{7, mv(api.MLeft, 1, 0), land(5, 0, 2), 0}, ask{7, mv(api.MLeft, 2, 0), land(2, 0, 1), 0}, ask{7, mv(api.MLeft, 3, 0), land(0, 0, 0), 0}, ask{1, mv(api.MLeft, 1, 0), noLand, api.ErrMove},
	)
}

func TestStartFirstEndBar(t *testing.T) {
	for _, past := range []bool{false, true} {
		hold(t, encodings, rhyme, chars(past),
			ask{3, mv(api.MStart, 0, 0), ex(0), 0}, ask{0, mv(api.MStart, 7, 0), ex(0), 0}, ask{6, mv(api.MStart, 0, 0), land(6, 0, 0), 0}, ask{9, mv(api.MStart, 0, 0), land(7, 0, 0), 0},
			ask{3, mv(api.MFirst, 4, 0), ex(0), 0}, ask{6, mv(api.MFirst, 0, 0), land(6, 0, 0), 0}, ask{7, mv(api.MFirst, 0, 0), land(8, 0, 1), 0}, ask{9, mv(api.MFirst, 0, 0), land(8, 0, 1), 0},
			ask{0, mv(api.MEnd, 0, 0), end(4), 0}, ask{4, mv(api.MEnd, 1, 0), end(4), 0}, ask{0, mv(api.MEnd, 2, 0), end(6), 0}, ask{0, mv(api.MEnd, 3, 0), end(8), 0}, ask{0, mv(api.MEnd, 4, 0), end(8), 0}, ask{0, mv(api.MEnd, math.MaxInt, 0), end(8), 0}, ask{9, mv(api.MEnd, 0, 0), end(8), 0},
			ask{3, mv(api.MBar, 0, 0), ex(0), 0}, ask{3, mv(api.MBar, 3, 0), ex(2), 0}, ask{3, mv(api.MBar, 5, 0), ex(4), 0}, ask{6, mv(api.MBar, 5, 0), land(6, 0, 0), 0}, ask{7, mv(api.MBar, 2, 0), land(8, 0, 1), 0},
		)
		hold(t, encodings, "  \t\nx", chars(past), ask{0, mv(api.MFirst, 0, 0), ex(2), 0}, ask{4, mv(api.MFirst, 0, 0), land(4, 0, 0), 0})
		hold(t, wide, " \u0301a\n\u0301a\n \u0301 \u0301", chars(past),
			ask{0, mv(api.MFirst, 0, 0), land(2, 0, 1), 0}, ask{5, mv(api.MFirst, 0, 0), land(4, 0, 0), 0}, ask{7, mv(api.MFirst, 0, 0), land(9, 0, 1), 0},
			ask{0, mv(api.MEnd, 3, 0), end(9), 0}, ask{0, mv(api.MBar, 2, 0), land(2, 0, 1), 0}, ask{10, mv(api.MStart, 0, 0), land(7, 0, 0), 0},
		)
	}
	hold(t, encodings, rhyme, chars(false), ask{3, mv(api.MBar, 6, 0), ex(4), 0}, ask{3, mv(api.MBar, 99999, 0), ex(4), 0})
	hold(t, encodings, rhyme, chars(true), ask{3, mv(api.MBar, 6, 0), ex(5), 0}, ask{3, mv(api.MBar, 99999, 0), ex(5), 0})
}

func TestFinds(t *testing.T) {
	for _, past := range []bool{false, true} {
		hold(t, encodings, rhyme, chars(past),
			ask{0, mv(api.MFind, 0, 'a'), in(3), 0}, ask{0, mv(api.MFind, 2, 'a'), noLand, api.ErrMove}, ask{0, mv(api.MFind, 1, 'b'), in(1), 0}, ask{0, mv(api.MFind, 2, 'b'), in(4), 0}, ask{0, mv(api.MFind, 3, 'b'), noLand, api.ErrMove}, ask{0, mv(api.MFind, math.MaxInt, 'b'), noLand, api.ErrMove},
			ask{0, mv(api.MTill, 0, 'b'), in(0), 0}, ask{0, mv(api.MTill, 2, 'b'), in(3), 0}, ask{0, mv(api.MTill, 3, 'b'), noLand, api.ErrMove}, ask{1, mv(api.MTill, 0, 'b'), in(3), 0},
			ask{4, mv(api.MFindBack, 0, 'a'), ex(3), 0}, ask{4, mv(api.MFindBack, 2, 'a'), ex(0), 0}, ask{4, mv(api.MFindBack, 3, 'a'), noLand, api.ErrMove}, ask{4, mv(api.MFindBack, 0, 'b'), ex(1), 0}, ask{0, mv(api.MFindBack, 0, 'a'), noLand, api.ErrMove},
			ask{4, mv(api.MTillBack, 0, 'a'), ex(4), 0}, ask{4, mv(api.MTillBack, 2, 'a'), ex(1), 0}, ask{4, mv(api.MTillBack, 3, 'a'), noLand, api.ErrMove}, ask{4, mv(api.MTillBack, 0, 'b'), ex(2), 0},
			ask{0, mv(api.MFind, 0, '\n'), noLand, api.ErrMove}, ask{0, mv(api.MFind, 0, 'x'), noLand, api.ErrMove}, ask{8, mv(api.MFindBack, 0, 'a'), noLand, api.ErrMove}, ask{8, mv(api.MFindBack, 0, '\n'), noLand, api.ErrMove},
			ask{0, mv(api.MFind, 0, 0), noLand, api.ErrMove}, ask{0, mv(api.MTill, 0, -1), noLand, api.ErrMove}, ask{4, mv(api.MFindBack, 0, math.MinInt), noLand, api.ErrMove}, ask{4, mv(api.MTillBack, 0, math.MaxInt), noLand, api.ErrMove},
			ask{6, mv(api.MFind, 0, ' '), noLand, api.ErrMove}, ask{6, mv(api.MTillBack, 0, 'b'), noLand, api.ErrMove},
		)
	}
	hold(t, encodings, rhyme, chars(false), ask{5, mv(api.MFindBack, 0, 'b'), ex(1), 0}, ask{5, mv(api.MTillBack, 0, 'b'), ex(2), 0})
	hold(t, encodings, rhyme, chars(true), ask{5, mv(api.MFindBack, 0, 'b'), ex(4), 0}, ask{5, mv(api.MTillBack, 0, 'b'), ex(5), 0}, ask{5, mv(api.MFind, 0, 'b'), noLand, api.ErrMove})
	hold(t, wide, "e\u0301e\u0301\u0302xe\n\u0301a\u0301", chars(false),
		ask{0, mv(api.MFind, 0, 'e'), land(2, 1, 1), 0}, ask{0, mv(api.MFind, 2, 'e'), land(6, 1, 3), 0}, ask{0, mv(api.MTill, 2, 'e'), land(5, 1, 2), 0}, ask{0, mv(api.MFind, 0, 0x301), noLand, api.ErrMove},
		ask{6, mv(api.MFindBack, 2, 'e'), land(0, 0, 0), 0}, ask{6, mv(api.MTillBack, 2, 'e'), land(2, 0, 1), 0}, ask{5, mv(api.MTillBack, 0, 'e'), land(5, 0, 2), 0}, ask{9, mv(api.MFindBack, 0, 0x301), land(8, 0, 0), 0},
	)
}

// From the tail, where only past leads, and from the one line of an empty text.
func TestCharsOfNothing(t *testing.T) {
	for _, c := range []struct {
		text string
		at   int
		past bool
	}{{"ab\n", 3, true}, {"ab\r\n", 9, true}, {"", 0, true}, {"", -4, false}, {"", 7, true}} {
		n := len(c.text)
		hold(t, encodings, c.text, chars(c.past),
			ask{c.at, mv(api.MLeft, 0, 0), noLand, api.ErrMove}, ask{c.at, mv(api.MRight, 0, 0), noLand, api.ErrMove}, ask{c.at, mv(api.MRight, 9, 0), noLand, api.ErrMove},
			ask{c.at, mv(api.MStart, 0, 0), land(n, 0, 0), 0}, ask{c.at, mv(api.MFirst, 0, 0), land(n, 0, 0), 0}, ask{c.at, mv(api.MBar, 9, 0), land(n, 0, 0), 0},
			ask{c.at, mv(api.MEnd, 0, 0), end(n), 0}, ask{c.at, mv(api.MEnd, 9, 0), end(n), 0},
			ask{c.at, mv(api.MFind, 0, 'a'), noLand, api.ErrMove}, ask{c.at, mv(api.MTill, 0, 'a'), noLand, api.ErrMove}, ask{c.at, mv(api.MFindBack, 0, 'a'), noLand, api.ErrMove}, ask{c.at, mv(api.MTillBack, 0, 'b'), noLand, api.ErrMove}, ask{c.at, mv(api.MFindBack, 0, '\n'), noLand, api.ErrMove},
		)
	}
	hold(t, encodings, "ab\n", chars(false), ask{3, mv(api.MLeft, 0, 0), ex(0), 0}, ask{3, mv(api.MEnd, 5, 0), end(1), 0}, ask{3, mv(api.MRight, 0, 0), noLand, api.ErrMove})
}
