package motion_test

import (
	"math"
	"testing"

	"copyist/api"
	"copyist/motion"
)

// The lines 0 2 4, 4 4 6, 6 7 8 and the tail at 8.
const strophe = "ab\r\n\r\nc\n"

func TestBetweenExclusive(t *testing.T) {
	lies(t, encodings, strophe,
		stretch{0, 1, 0, byChars(0, 1), 0}, stretch{0, 2, 0, byChars(0, 2), 0}, stretch{0, 3, 0, byChars(0, 2), 0}, stretch{1, 1, 0, byChars(1, 1), 0},
		stretch{0, 4, 0, byChars(0, 2), 0}, stretch{2, 4, 0, byChars(2, 2), 0}, stretch{3, 4, 0, byChars(2, 2), 0}, stretch{4, 4, 0, byChars(4, 4), 0},
		stretch{0, 6, 0, byChars(0, 4), 0}, stretch{4, 6, 0, byChars(4, 4), 0}, stretch{5, 6, 0, byChars(4, 4), 0}, stretch{0, 7, 0, byChars(0, 7), 0}, stretch{6, 7, 0, byChars(6, 7), 0},
		stretch{6, 8, 0, byChars(6, 7), 0}, stretch{7, 8, 0, byChars(7, 7), 0}, stretch{8, 8, 0, byChars(8, 8), 0}, stretch{-9, 99, 0, byChars(0, 7), 0}, stretch{math.MinInt, math.MaxInt, 0, byChars(0, 7), 0},
	)
	lies(t, encodings, "a\nb", stretch{0, 3, 0, byChars(0, 3), 0}, stretch{0, 2, 0, byChars(0, 1), 0}, stretch{2, 9, 0, byChars(2, 3), 0})
	lies(t, encodings, "", stretch{0, 0, 0, byChars(0, 0), 0}, stretch{-1, 1, 0, byChars(0, 0), 0})
	lies(t, encodings, "\n", stretch{0, 1, 0, byChars(0, 0), 0}, stretch{1, 1, 0, byChars(1, 1), 0})
	lies(t, wide, "xe\u0301y", stretch{0, 2, 0, byChars(0, 1), 0}, stretch{2, 4, 0, byChars(1, 4), 0}, stretch{1, 2, 0, byChars(1, 1), 0})
}

func TestBetweenInclusive(t *testing.T) {
	lies(t, encodings, strophe,
		stretch{0, 0, 1, byChars(0, 1), 0}, stretch{0, 1, 1, byChars(0, 2), 0}, stretch{0, 2, 1, byChars(0, 2), 0}, stretch{2, 3, 1, byChars(2, 2), 0}, stretch{0, 4, 1, byChars(0, 4), 0}, stretch{4, 5, 1, byChars(4, 4), 0},
		stretch{0, 6, 1, byChars(0, 7), 0}, stretch{6, 6, 1, byChars(6, 7), 0}, stretch{6, 7, 1, byChars(6, 7), 0}, stretch{7, 8, 1, byChars(7, 8), 0}, stretch{8, 8, 1, byChars(8, 8), 0}, stretch{-9, 99, 1, byChars(0, 8), 0},
	)
	lies(t, encodings, "", stretch{0, 0, 1, byChars(0, 0), 0})
	lies(t, wide, "xe\u0301y", stretch{0, 2, 1, byChars(0, 3), 0}, stretch{1, 2, 1, byChars(1, 3), 0}, stretch{0, 3, 1, byChars(0, 4), 0}, stretch{0, 4, 1, byChars(0, 4), 0})
}

func TestBetweenLinewise(t *testing.T) {
	lies(t, encodings, strophe,
		stretch{0, 1, 2, byLines(0, 4), 0}, stretch{3, 3, 2, byLines(0, 4), 0}, stretch{0, 4, 2, byLines(0, 6), 0}, stretch{4, 5, 2, byLines(4, 6), 0}, stretch{6, 7, 2, byLines(6, 8), 0}, stretch{8, 8, 2, byLines(6, 8), 0}, stretch{4, 8, 2, byLines(4, 8), 0}, stretch{-9, 99, 2, byLines(0, 8), 0},
	)
	lies(t, encodings, "a\nb", stretch{3, 3, 2, byLines(2, 3), 0}, stretch{0, 3, 2, byLines(0, 3), 0})
	lies(t, encodings, "", stretch{0, 0, 2, byLines(0, 0), 0})
	lies(t, encodings, "\n", stretch{1, 1, 2, byLines(0, 1), 0})
}

func TestBetweenOfNoKind(t *testing.T) {
	for _, kind := range []int{math.MinInt, -1, 3, 4, math.MaxInt} {
		lies(t, encodings, strophe, stretch{0, 4, kind, api.Span{}, api.ErrArg})
		lies(t, encodings, "", stretch{0, 0, kind, api.Span{}, api.ErrArg})
	}
}

// An operator to the next word: the last word of a line does not take the break, nor does it with a count.
func TestReachOfWords(t *testing.T) {
	takes(t, encodings, "one two\nthree",
		taken{0, mv(api.MWord, 0, 0), byChars(0, 4), 0}, taken{4, mv(api.MWord, 0, 0), byChars(4, 7), 0}, taken{6, mv(api.MWord, 1, 0), byChars(6, 7), 0}, taken{7, mv(api.MWord, 1, 0), byChars(6, 7), 0}, taken{3, mv(api.MWord, 0, 0), byChars(3, 4), 0},
		taken{0, mv(api.MWord, 2, 0), byChars(0, 7), 0}, taken{0, mv(api.MWord, 3, 0), byChars(0, 13), 0}, taken{0, mv(api.MWord, 4, 0), byChars(0, 13), 0}, taken{0, mv(api.MWord, math.MaxInt, 0), byChars(0, 13), 0}, taken{4, mv(api.MWord, 2, 0), byChars(4, 13), 0},
		taken{12, mv(api.MWord, 0, 0), byChars(12, 13), 0}, taken{13, mv(api.MWord, 9, 0), byChars(12, 13), 0}, taken{99, mv(api.MWord, 0, 0), byChars(12, 13), 0},
	)
	takes(t, encodings, "one\n\ntwo",
		taken{0, mv(api.MWord, 1, 0), byChars(0, 3), 0}, taken{0, mv(api.MWord, 2, 0), byChars(0, 4), 0}, taken{0, mv(api.MWord, 3, 0), byChars(0, 8), 0}, taken{4, mv(api.MWord, 1, 0), byChars(4, 4), 0}, taken{4, mv(api.MWord, 2, 0), byChars(4, 8), 0},
	)
	takes(t, encodings, "a.b  \r\n  c d\n", // two blanks at a line's end, two at the next one's beginning
		taken{0, mv(api.MWord, 0, 0), byChars(0, 1), 0}, taken{0, mv(api.MWord, 2, 0), byChars(0, 2), 0}, taken{0, mv(api.MWord, 3, 0), byChars(0, 5), 0}, taken{0, mv(api.MWord, 4, 0), byChars(0, 11), 0}, taken{0, mv(api.MWord, 5, 0), byChars(0, 12), 0}, taken{2, mv(api.MWord, 0, 0), byChars(2, 5), 0}, taken{4, mv(api.MWord, 0, 0), byChars(4, 5), 0},
		taken{0, mv(api.MBigWord, 0, 0), byChars(0, 5), 0}, taken{0, mv(api.MBigWord, 2, 0), byChars(0, 11), 0}, taken{0, mv(api.MBigWord, 9, 0), byChars(0, 12), 0}, taken{9, mv(api.MBigWord, 0, 0), byChars(9, 11), 0}, taken{13, mv(api.MWord, 0, 0), byChars(11, 12), 0},
	)
	takes(t, encodings, "a\n  ", taken{0, mv(api.MWord, 0, 0), byChars(0, 1), 0}, taken{0, mv(api.MWord, 2, 0), byChars(0, 1), 0}, taken{2, mv(api.MWord, 5, 0), byChars(2, 4), 0})
	takes(t, encodings, "a\n\n", taken{0, mv(api.MWord, 0, 0), byChars(0, 1), 0}, taken{0, mv(api.MWord, 2, 0), byChars(0, 1), 0}, taken{2, mv(api.MWord, 0, 0), api.Span{}, api.ErrMove})
	for _, text := range []string{"", "\n"} {
		takes(t, encodings, text, taken{0, mv(api.MWord, 0, 0), api.Span{}, api.ErrMove}, taken{9, mv(api.MBigWord, 3, 0), api.Span{}, api.ErrMove})
	}
	takes(t, wide, "e\u0301 \u0301x\n.", taken{1, mv(api.MWord, 0, 0), byChars(0, 4), 0}, taken{0, mv(api.MWord, 2, 0), byChars(0, 5), 0}, taken{4, mv(api.MBigWord, 0, 0), byChars(4, 5), 0})
}

// Every other motion, from the place of the cursor.
func TestReachOfEach(t *testing.T) {
	takes(t, encodings, "ab cd\n  (x)\n\ny\n", // the lines 0 5 6, 6 11 12, 12 12 13, 13 14 15
		taken{4, mv(api.MLeft, 2, 0), byChars(2, 4), 0}, taken{5, mv(api.MLeft, 0, 0), byChars(3, 4), 0}, taken{0, mv(api.MLeft, 0, 0), api.Span{}, api.ErrMove}, taken{3, mv(api.MRight, 1, 0), byChars(3, 4), 0}, taken{3, mv(api.MRight, 9, 0), byChars(3, 5), 0}, taken{4, mv(api.MRight, 0, 0), byChars(4, 5), 0}, taken{12, mv(api.MRight, 0, 0), api.Span{}, api.ErrMove},
		taken{3, mv(api.MStart, 0, 0), byChars(0, 3), 0}, taken{0, mv(api.MStart, 0, 0), byChars(0, 0), 0}, taken{10, mv(api.MFirst, 0, 0), byChars(8, 10), 0}, taken{6, mv(api.MFirst, 0, 0), byChars(6, 8), 0}, taken{1, mv(api.MEnd, 0, 0), byChars(1, 5), 0}, taken{1, mv(api.MEnd, 2, 0), byChars(1, 11), 0}, taken{1, mv(api.MEnd, 3, 0), byChars(1, 12), 0}, taken{12, mv(api.MEnd, 0, 0), byChars(12, 12), 0},
		taken{3, mv(api.MBar, 2, 0), byChars(1, 3), 0}, taken{3, mv(api.MBar, 99, 0), byChars(3, 5), 0}, taken{0, mv(api.MFind, 0, 'c'), byChars(0, 4), 0}, taken{0, mv(api.MTill, 0, 'c'), byChars(0, 3), 0}, taken{4, mv(api.MFindBack, 0, 'b'), byChars(1, 4), 0}, taken{4, mv(api.MTillBack, 0, 'b'), byChars(2, 4), 0}, taken{0, mv(api.MFind, 0, 'x'), api.Span{}, api.ErrMove},
		taken{3, mv(api.MDown, 0, 0), byLines(0, 12), 0}, taken{14, mv(api.MDown, 0, 0), api.Span{}, api.ErrMove}, taken{15, mv(api.MUp, 2, 0), byLines(6, 15), 0}, taken{0, mv(api.MNextRow, 2, 0), byLines(0, 13), 0}, taken{7, mv(api.MPrevRow, 0, 0), byLines(0, 12), 0},
		taken{7, mv(api.MHere, 0, 0), byLines(6, 12), 0}, taken{7, mv(api.MLines, 0, 0), byLines(6, 12), 0}, taken{7, mv(api.MLines, 2, 0), byLines(6, 13), 0}, taken{0, mv(api.MLines, 99, 0), byLines(0, 15), 0}, taken{15, mv(api.MLines, 0, 0), byLines(13, 15), 0}, taken{7, mv(api.MGoto, 0, 0), byLines(6, 15), 0}, taken{7, mv(api.MGoto, 1, 0), byLines(0, 12), 0}, taken{13, mv(api.MTopRow, 2, 0), byLines(6, 15), 0}, taken{0, mv(api.MPercent, 50, 0), byLines(0, 12), 0}, taken{0, mv(api.MPercent, 0, 0), api.Span{}, api.ErrMove},
		taken{3, mv(api.MBack, 0, 0), byChars(0, 3), 0}, taken{8, mv(api.MBack, 0, 0), byChars(3, 8), 0}, taken{6, mv(api.MBack, 0, 0), byChars(3, 5), 0}, taken{3, mv(api.MBackEnd, 0, 0), byChars(1, 4), 0}, taken{0, mv(api.MWordEnd, 0, 0), byChars(0, 2), 0}, taken{1, mv(api.MWordEnd, 0, 0), byChars(1, 5), 0}, taken{3, mv(api.MRest, 0, 0), byChars(3, 5), 0}, taken{4, mv(api.MRest, 0, 0), byChars(4, 5), 0}, taken{8, mv(api.MBigRest, 0, 0), byChars(8, 11), 0}, taken{8, mv(api.MBigEnd, 0, 0), byChars(8, 11), 0}, taken{10, mv(api.MBigBack, 0, 0), byChars(8, 10), 0}, taken{8, mv(api.MBigBackEnd, 0, 0), byChars(4, 9), 0},
		taken{0, mv(api.MParaNext, 0, 0), byChars(0, 11), 0}, taken{0, mv(api.MParaNext, 2, 0), byChars(0, 14), 0}, taken{13, mv(api.MParaPrev, 0, 0), byChars(12, 12), 0}, taken{13, mv(api.MParaPrev, 2, 0), byChars(0, 12), 0}, taken{6, mv(api.MMatch, 0, 0), byChars(6, 11), 0}, taken{10, mv(api.MMatch, 0, 0), byChars(8, 11), 0}, taken{0, mv(api.MMatch, 0, 0), api.Span{}, api.ErrMove},
	)
	// An operator's motion up or down has the cursor's own column for its goal, which its span does not show.
	takes(t, encodings, "", taken{0, mv(api.MLines, 0, 0), byLines(0, 0), 0}, taken{0, mv(api.MEnd, 0, 0), byChars(0, 0), 0}, taken{0, mv(api.MRest, 0, 0), byChars(0, 0), 0}, taken{0, mv(api.MLeft, 0, 0), api.Span{}, api.ErrMove})
}

func TestReachOfUnknownKinds(t *testing.T) {
	known := map[int]bool{api.MLines: true}
	for _, kinds := range [][]int{charKinds, rowKinds, wordKinds, paraKinds} {
		for _, kind := range kinds {
			known[kind] = true
		}
	}
	for _, text := range []string{"", "\n", page} {
		x := load(t, api.UTF16BE, spell(text))
		for kind := -2; kind < 80; kind++ {
			if s, e := motion.Reach(x, 0, mv(kind, 1, 'b')); (e == api.ErrArg) == known[kind] || e != api.OK && s != (api.Span{}) {
				t.Errorf("%q, kind %d: %+v, %d", text, kind, s, e)
			}
		}
		for _, kind := range none {
			if s, e := motion.Reach(x, 0, mv(kind, 1, 'b')); e != api.ErrArg || s != (api.Span{}) {
				t.Errorf("%q, kind %d: %+v, %d", text, kind, s, e)
			}
		}
	}
}
