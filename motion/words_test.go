package motion_test

import (
	"math"
	"testing"

	"copyist/api"
)

// Words of letters begin at 0, 5, 10 and 18, of signs at 3 and 8; an empty line at 14, a blank one from 15 to 17; the tail at 20.
const speech = "foo, bar..baz\n\n  \nx\n"

// each asks for the counts 1, 2, .. of a motion from an offset.
func each(at, kind, far int, columns map[int]int, places ...int) []ask {
	var out []ask
	for i, place := range places {
		goal, ok := columns[place]
		if !ok {
			goal = place
		}
		out = append(out, ask{at, mv(kind, i+1, 0), land(place, far, goal), 0})
	}
	return out
}

// The columns of speech's later lines.
var columns = map[int]int{14: 0, 15: 0, 16: 1, 17: 2, 18: 0, 19: 1, 20: 0}

func TestWordsAhead(t *testing.T) {
	for _, past := range []bool{false, true} {
		hold(t, encodings, speech, words(past), each(0, api.MWord, 0, columns, 3, 5, 8, 10, 14, 18)...)
		hold(t, encodings, speech, words(past), each(4, api.MWord, 0, columns, 5, 8)...)
		hold(t, encodings, speech, words(past), each(13, api.MWord, 0, columns, 14, 18)...)
		hold(t, encodings, speech, words(past), each(14, api.MWord, 0, columns, 18)...)
		hold(t, encodings, speech, words(past), each(16, api.MWord, 0, columns, 18)...)
		hold(t, encodings, speech, words(past), each(0, api.MBigWord, 0, columns, 5, 14, 18)...)
		hold(t, encodings, speech, words(past), each(3, api.MBigWord, 0, columns, 5, 14, 18)...)
		hold(t, encodings, speech, words(past), each(8, api.MBigWord, 0, columns, 14)...)
		hold(t, encodings, speech, words(past), ask{0, mv(api.MWord, 0, 0), ex(3), 0}, ask{-1, mv(api.MWord, math.MinInt, 0), ex(3), 0})
	}
	hold(t, encodings, speech, words(false),
		ask{0, mv(api.MWord, 7, 0), land(18, 0, 0), 0}, ask{0, mv(api.MWord, math.MaxInt, 0), land(18, 0, 0), 0}, ask{0, mv(api.MBigWord, 4, 0), land(18, 0, 0), 0},
		ask{18, mv(api.MWord, 0, 0), noLand, api.ErrMove}, ask{18, mv(api.MBigWord, 5, 0), noLand, api.ErrMove}, ask{20, mv(api.MWord, 0, 0), noLand, api.ErrMove},
	)
	hold(t, encodings, speech, words(true),
		ask{0, mv(api.MWord, 7, 0), land(19, 0, 1), 0}, ask{0, mv(api.MWord, math.MaxInt, 0), land(19, 0, 1), 0}, ask{0, mv(api.MBigWord, 4, 0), land(19, 0, 1), 0},
		ask{18, mv(api.MWord, 0, 0), land(19, 0, 1), 0}, ask{19, mv(api.MWord, 0, 0), noLand, api.ErrMove}, ask{20, mv(api.MBigWord, 0, 0), noLand, api.ErrMove},
	)
}

func TestWordsBack(t *testing.T) {
	for _, past := range []bool{false, true} {
		hold(t, encodings, speech, words(past), each(18, api.MBack, 0, columns, 14, 10, 8, 5, 3, 0, 0)...)
		hold(t, encodings, speech, words(past), each(18, api.MBigBack, 0, columns, 14, 5, 0, 0)...)
		hold(t, encodings, speech, words(past), each(7, api.MBack, 0, columns, 5, 3, 0, 0)...)
		hold(t, encodings, speech, words(past), each(7, api.MBigBack, 0, columns, 5, 0, 0)...)
		hold(t, encodings, speech, words(past), each(14, api.MBack, 0, columns, 10)...)
		hold(t, encodings, speech, words(past), each(16, api.MBack, 0, columns, 14)...)
		hold(t, encodings, speech, words(past), each(18, api.MBackEnd, 1, columns, 14, 12, 9, 7, 3, 2, 0, 0)...)
		hold(t, encodings, speech, words(past), each(18, api.MBigBackEnd, 1, columns, 14, 12, 3, 0, 0)...)
		hold(t, encodings, speech, words(past), each(6, api.MBackEnd, 1, columns, 3, 2, 0)...)
		hold(t, encodings, speech, words(past), each(2, api.MBackEnd, 1, columns, 0)...)
		hold(t, encodings, speech, words(past), each(9, api.MBackEnd, 1, columns, 7)...)
		hold(t, encodings, speech, words(past), each(14, api.MBackEnd, 1, columns, 12)...)
		hold(t, encodings, speech, words(past),
			ask{18, mv(api.MBack, math.MaxInt, 0), ex(0), 0}, ask{18, mv(api.MBackEnd, math.MaxInt, 0), in(0), 0}, ask{18, mv(api.MBackEnd, 0, 0), land(14, 1, 0), 0},
			ask{0, mv(api.MBack, 0, 0), noLand, api.ErrMove}, ask{-3, mv(api.MBack, 9, 0), noLand, api.ErrMove}, ask{0, mv(api.MBackEnd, 0, 0), noLand, api.ErrMove}, ask{0, mv(api.MBigBack, 0, 0), noLand, api.ErrMove}, ask{0, mv(api.MBigBackEnd, 2, 0), noLand, api.ErrMove},
		)
	}
	hold(t, encodings, speech, words(true), append(each(20, api.MBack, 0, columns, 18, 14), each(20, api.MBackEnd, 1, columns, 18, 14)...)...)
	hold(t, encodings, speech, words(true), append(each(13, api.MBack, 0, columns, 10), each(13, api.MBackEnd, 1, columns, 12, 9)...)...)
	hold(t, encodings, speech, words(false), append(each(20, api.MBack, 0, columns, 14), each(20, api.MBackEnd, 1, columns, 14)...)...)
	hold(t, encodings, speech, words(false), append(each(13, api.MBack, 0, columns, 10), each(13, api.MBackEnd, 1, columns, 9)...)...)
}

func TestWordEnds(t *testing.T) {
	for _, past := range []bool{false, true} {
		hold(t, encodings, speech, words(past), each(0, api.MWordEnd, 1, columns, 2, 3, 7, 9, 12, 18, 18)...)
		hold(t, encodings, speech, words(past), each(2, api.MWordEnd, 1, columns, 3, 7)...)
		hold(t, encodings, speech, words(past), each(12, api.MWordEnd, 1, columns, 18, 18)...)
		hold(t, encodings, speech, words(past), each(14, api.MWordEnd, 1, columns, 18)...)
		hold(t, encodings, speech, words(past), each(0, api.MBigEnd, 1, columns, 3, 12, 18, 18)...)
		hold(t, encodings, speech, words(past), each(0, api.MRest, 1, columns, 2, 3, 7, 9, 12, 18, 18)...)
		hold(t, encodings, speech, words(past), each(2, api.MRest, 1, columns, 2, 3, 7)...)
		hold(t, encodings, speech, words(past), each(4, api.MRest, 1, columns, 7)...)
		hold(t, encodings, speech, words(past), each(14, api.MRest, 1, columns, 18)...)
		hold(t, encodings, speech, words(past), each(18, api.MRest, 1, columns, 18, 18)...)
		hold(t, encodings, speech, words(past), each(0, api.MBigRest, 1, columns, 3, 12, 18, 18)...)
		hold(t, encodings, speech, words(past), each(3, api.MBigRest, 1, columns, 3, 12)...)
		hold(t, encodings, speech, words(past),
			ask{18, mv(api.MWordEnd, 0, 0), noLand, api.ErrMove}, ask{18, mv(api.MBigEnd, 9, 0), noLand, api.ErrMove}, ask{0, mv(api.MWordEnd, math.MaxInt, 0), land(18, 1, 0), 0}, ask{0, mv(api.MRest, math.MaxInt, 0), land(18, 1, 0), 0},
		)
	}
	hold(t, encodings, speech, words(false), ask{20, mv(api.MWordEnd, 0, 0), noLand, api.ErrMove}, ask{20, mv(api.MRest, 0, 0), land(18, 1, 0), 0}, ask{13, mv(api.MRest, 0, 0), in(12), 0})
	hold(t, encodings, speech, words(true),
		ask{19, mv(api.MWordEnd, 0, 0), noLand, api.ErrMove}, ask{20, mv(api.MBigEnd, 0, 0), noLand, api.ErrMove},
		ask{19, mv(api.MRest, 0, 0), land(19, 1, 1), 0}, ask{19, mv(api.MBigRest, 9, 0), land(19, 1, 1), 0}, ask{20, mv(api.MRest, 0, 0), land(20, 1, 0), 0}, ask{13, mv(api.MRest, 0, 0), land(18, 1, 0), 0},
	)
}

// Empty lines at the beginning and at the end, blank ones at the end, and nothing at all.
func TestWordsAtTheEdges(t *testing.T) {
	low := map[int]int{1: 0, 2: 0, 3: 1}
	for _, past := range []bool{false, true} {
		hold(t, encodings, "\n\na", words(past), each(2, api.MBack, 0, low, 1, 0, 0)...)
		hold(t, encodings, "\n\na", words(past), each(2, api.MBackEnd, 1, low, 1, 0, 0)...)
		hold(t, encodings, "\n\na", words(past), each(0, api.MWord, 0, low, 1, 2)...)
		hold(t, encodings, "\n\na", words(past), each(0, api.MWordEnd, 1, low, 2, 2)...)
		hold(t, encodings, "a\r\n\r\n", words(past), each(0, api.MWord, 0, map[int]int{3: 0}, 3, 3)...)
		hold(t, encodings, "a\r\n\r\n", words(past), ask{0, mv(api.MWordEnd, 0, 0), land(3, 1, 0), 0}, ask{3, mv(api.MWordEnd, 0, 0), noLand, api.ErrMove}, ask{3, mv(api.MWord, 0, 0), noLand, api.ErrMove})
		hold(t, encodings, "a\n  ", words(past), ask{0, mv(api.MWordEnd, 0, 0), land(3, 1, 1), 0}, ask{3, mv(api.MWordEnd, 0, 0), noLand, api.ErrMove}, ask{3, mv(api.MBack, 0, 0), ex(0), 0}, ask{3, mv(api.MRest, 0, 0), land(3, 1, 1), 0}, ask{2, mv(api.MRest, 0, 0), land(3, 1, 1), 0})
		hold(t, encodings, "", words(past),
			ask{0, mv(api.MWord, 0, 0), noLand, api.ErrMove}, ask{9, mv(api.MBack, 0, 0), noLand, api.ErrMove}, ask{0, mv(api.MWordEnd, 0, 0), noLand, api.ErrMove}, ask{0, mv(api.MBackEnd, 3, 0), noLand, api.ErrMove}, ask{0, mv(api.MRest, 3, 0), in(0), 0}, ask{0, mv(api.MBigRest, 0, 0), in(0), 0},
		)
		hold(t, encodings, "\n", words(past), ask{0, mv(api.MWord, 0, 0), noLand, api.ErrMove}, ask{0, mv(api.MWordEnd, 0, 0), noLand, api.ErrMove}, ask{0, mv(api.MRest, 0, 0), in(0), 0})
		hold(t, encodings, "  a", words(past), ask{2, mv(api.MBack, 0, 0), ex(0), 0}, ask{2, mv(api.MBackEnd, 0, 0), in(0), 0}, ask{1, mv(api.MBack, 0, 0), ex(0), 0}, ask{0, mv(api.MWord, 0, 0), ex(2), 0})
	}
	hold(t, encodings, "a\n  ", words(false), ask{0, mv(api.MWord, 0, 0), land(3, 0, 1), 0}, ask{4, mv(api.MWord, 0, 0), noLand, api.ErrMove})
	hold(t, encodings, "a\n  ", words(true), ask{0, mv(api.MWord, 0, 0), land(4, 0, 2), 0}, ask{4, mv(api.MWord, 0, 0), noLand, api.ErrMove}, ask{4, mv(api.MRest, 0, 0), land(4, 1, 2), 0}, ask{4, mv(api.MWordEnd, 0, 0), noLand, api.ErrMove})
	hold(t, encodings, "\n\na", words(true), ask{0, mv(api.MWord, 3, 0), land(3, 0, 1), 0})
	hold(t, encodings, "\n", words(true), ask{1, mv(api.MBack, 0, 0), ex(0), 0}, ask{1, mv(api.MBackEnd, 0, 0), in(0), 0}, ask{1, mv(api.MRest, 0, 0), land(1, 1, 0), 0}, ask{1, mv(api.MWord, 0, 0), noLand, api.ErrMove})
}

// The first atom of a cluster decides; a blank with an accent is a blank, a sign with one a sign.
func TestWordsOfClusters(t *testing.T) {
	text := "e\u0301\u0301 \u0301x.\u0301:"
	cols := map[int]int{0: 0, 3: 1, 5: 2, 6: 3, 8: 4, 9: 5}
	for _, past := range []bool{false, true} {
		hold(t, wide, text, words(past), each(0, api.MWord, 0, cols, 5, 6)...)
		hold(t, wide, text, words(past), each(1, api.MWord, 0, cols, 5, 6)...)
		hold(t, wide, text, words(past), each(2, api.MWordEnd, 1, cols, 5, 8, 8)...)
		hold(t, wide, text, words(past), each(2, api.MRest, 1, cols, 0, 5, 8)...)
		hold(t, wide, text, words(past), each(8, api.MBack, 0, cols, 6, 5, 0)...)
		hold(t, wide, text, words(past), each(7, api.MBackEnd, 1, cols, 5, 0, 0)...)
		hold(t, wide, text, words(past), each(0, api.MBigWord, 0, cols, 5)...)
		hold(t, wide, text, words(past), each(0, api.MBigEnd, 1, cols, 8, 8)...)
		hold(t, wide, text, words(past), each(8, api.MBigBack, 0, cols, 5, 0)...)
		hold(t, wide, text, words(past), each(8, api.MBigBackEnd, 1, cols, 0)...)
		hold(t, wide, "\u0301.\u3000\u4E00a_\u00A01", words(past), each(0, api.MWord, 0, nil, 1, 3, 7)...)
	}
	raw := []int{'a', -1 - 0x80, '.', 0x301, -1 - 0xFF, ' '}
	p := pairOf(t, api.UTF8, raw)
	for at := range len(raw) + 1 {
		p.all(t, at, []int{0, 1, 2}, 'a', -1-0x80)
	}
	hold(t, []int{api.Latin1}, "\u00e9\u00ff.\u00a0\u00b5\u00ad\u0085a", words(false), each(0, api.MWord, 0, nil, 2, 4, 5, 7)...)
}
