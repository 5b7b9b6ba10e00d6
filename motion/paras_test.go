package motion_test

import (
	"math"
	"strings"
	"testing"

	"copyist/api"
	"copyist/motion"
)

// The lines begin at 0, 2 (empty), 3 (blank), 5, 7 and 9 (blank); the tail at 11.
const chapter = "a\n\n \nb\nc\n\t\n"

func TestParagraphs(t *testing.T) {
	gap := func(at int) api.Land { return land(at, api.Exclusive, 0) }
	hold(t, encodings, chapter, motion.Paras,
		ask{0, mv(api.MParaNext, 0, 0), gap(2), 0}, ask{-4, mv(api.MParaNext, -4, 0), gap(2), 0}, ask{1, mv(api.MParaNext, 1, 0), gap(2), 0}, ask{0, mv(api.MParaNext, 2, 0), gap(9), 0}, ask{0, mv(api.MParaNext, 3, 0), land(9, api.Inclusive, 0), 0}, ask{0, mv(api.MParaNext, math.MaxInt, 0), land(9, api.Inclusive, 0), 0},
		ask{2, mv(api.MParaNext, 0, 0), gap(9), 0}, ask{3, mv(api.MParaNext, 1, 0), gap(9), 0}, ask{5, mv(api.MParaNext, 0, 0), gap(9), 0}, ask{9, mv(api.MParaNext, 0, 0), noLand, api.ErrMove}, ask{11, mv(api.MParaNext, 5, 0), noLand, api.ErrMove},
		ask{9, mv(api.MParaPrev, 0, 0), gap(3), 0}, ask{11, mv(api.MParaPrev, 1, 0), gap(3), 0}, ask{99, mv(api.MParaPrev, 2, 0), gap(0), 0}, ask{9, mv(api.MParaPrev, math.MaxInt, 0), gap(0), 0}, ask{5, mv(api.MParaPrev, 0, 0), gap(3), 0}, ask{7, mv(api.MParaPrev, 0, 0), gap(3), 0},
		ask{3, mv(api.MParaPrev, 0, 0), gap(0), 0}, ask{2, mv(api.MParaPrev, 0, 0), gap(0), 0}, ask{0, mv(api.MParaPrev, 0, 0), noLand, api.ErrMove}, ask{1, mv(api.MParaPrev, 3, 0), noLand, api.ErrMove},
	)
	hold(t, encodings, "\r\n \r\nab\r\n", motion.Paras,
		ask{5, mv(api.MParaPrev, 0, 0), gap(2), 0}, ask{5, mv(api.MParaPrev, 2, 0), gap(0), 0}, ask{2, mv(api.MParaPrev, 0, 0), gap(0), 0},
		ask{0, mv(api.MParaNext, 0, 0), land(6, api.Inclusive, 1), 0}, ask{6, mv(api.MParaNext, 0, 0), noLand, api.ErrMove}, ask{5, mv(api.MParaNext, 0, 0), land(6, api.Inclusive, 1), 0},
	)
	hold(t, encodings, "a\n\n", motion.Paras, ask{0, mv(api.MParaNext, 0, 0), gap(2), 0}, ask{0, mv(api.MParaNext, 2, 0), land(2, api.Inclusive, 0), 0}, ask{2, mv(api.MParaNext, 0, 0), noLand, api.ErrMove}, ask{2, mv(api.MParaPrev, 0, 0), gap(0), 0})
	hold(t, encodings, "ab\n  ", motion.Paras, ask{0, mv(api.MParaNext, 0, 0), gap(3), 0}, ask{3, mv(api.MParaNext, 0, 0), land(4, api.Inclusive, 1), 0}, ask{4, mv(api.MParaNext, 0, 0), noLand, api.ErrMove})
	for _, text := range []string{"", "\n", "a", "a\n"} {
		hold(t, encodings, text, motion.Paras, ask{0, mv(api.MParaNext, 0, 0), noLand, api.ErrMove}, ask{9, mv(api.MParaPrev, 0, 0), noLand, api.ErrMove}, ask{0, mv(api.MMatch, 0, 0), noLand, api.ErrMove})
	}
	hold(t, wide, "a\n \u0301\n\u0301", motion.Paras, ask{0, mv(api.MParaNext, 0, 0), gap(2), 0}, ask{5, mv(api.MParaPrev, 0, 0), gap(2), 0}, ask{5, mv(api.MParaNext, 0, 0), noLand, api.ErrMove})
}

func TestMatches(t *testing.T) {
	text := "a(b[c]d)\n{\n(\n}\n)]"
	hold(t, encodings, text, motion.Paras,
		ask{0, mv(api.MMatch, 0, 0), in(7), 0}, ask{1, mv(api.MMatch, 9, 0), in(7), 0}, ask{2, mv(api.MMatch, -1, 0), in(5), 0}, ask{5, mv(api.MMatch, 0, 0), in(3), 0}, ask{4, mv(api.MMatch, 0, 0), in(3), 0}, ask{6, mv(api.MMatch, 0, 0), in(1), 0}, ask{8, mv(api.MMatch, math.MaxInt, 0), in(1), 0},
		ask{9, mv(api.MMatch, 0, 0), land(13, 1, 0), 0}, ask{11, mv(api.MMatch, 0, 0), land(15, 1, 0), 0}, ask{12, mv(api.MMatch, 0, 0), land(15, 1, 0), 0}, ask{13, mv(api.MMatch, 0, 0), land(9, 1, 0), 0}, ask{15, mv(api.MMatch, 0, 0), land(11, 1, 0), 0},
		ask{16, mv(api.MMatch, 0, 0), noLand, api.ErrMove}, ask{99, mv(api.MMatch, 0, 0), noLand, api.ErrMove},
	)
	for _, text := range []string{"(", ")", "abc", "a\n()", "<>", "}{", "((a)", "[(\n"} {
		hold(t, encodings, text, motion.Paras, ask{0, mv(api.MMatch, 0, 0), noLand, api.ErrMove})
	}
	hold(t, encodings, "()\nb", motion.Paras, ask{3, mv(api.MMatch, 0, 0), noLand, api.ErrMove}, ask{0, mv(api.MMatch, 0, 0), in(1), 0})
	hold(t, encodings, "[(]", motion.Paras, ask{0, mv(api.MMatch, 0, 0), in(2), 0}, ask{1, mv(api.MMatch, 0, 0), noLand, api.ErrMove}, ask{2, mv(api.MMatch, 0, 0), in(0), 0})
	hold(t, encodings, "((a)(b))", motion.Paras, ask{0, mv(api.MMatch, 0, 0), in(7), 0}, ask{1, mv(api.MMatch, 0, 0), in(3), 0}, ask{4, mv(api.MMatch, 0, 0), in(6), 0}, ask{7, mv(api.MMatch, 0, 0), in(0), 0}, ask{6, mv(api.MMatch, 0, 0), in(4), 0})
}

// A bracket with an accent upon it, or with something that it is joined to, is none.
func TestMatchesOfClusters(t *testing.T) {
	hold(t, wide, "(\u0301)(a)", motion.Paras, ask{0, mv(api.MMatch, 0, 0), noLand, api.ErrMove}, ask{3, mv(api.MMatch, 0, 0), land(5, 1, 4), 0}, ask{5, mv(api.MMatch, 0, 0), land(3, 1, 2), 0})
	hold(t, wide, "(a)\u0301)", motion.Paras, ask{0, mv(api.MMatch, 0, 0), land(4, 1, 3), 0}, ask{4, mv(api.MMatch, 0, 0), land(0, 1, 0), 0}, ask{2, mv(api.MMatch, 0, 0), land(0, 1, 0), 0}, ask{3, mv(api.MMatch, 0, 0), land(0, 1, 0), 0})
	hold(t, wide, "\u0600())", motion.Paras, ask{0, mv(api.MMatch, 0, 0), noLand, api.ErrMove})
	hold(t, wide, "(\u0600(a)", motion.Paras, ask{0, mv(api.MMatch, 0, 0), land(4, 1, 3), 0}, ask{4, mv(api.MMatch, 0, 0), land(0, 1, 0), 0})
}

// Brackets that lie deep, and far apart.
func TestDeepMatches(t *testing.T) {
	text := strings.Repeat("(", 20000) + "[\n" + strings.Repeat(")", 20000)
	hold(t, []int{api.UTF8}, text, motion.Paras,
		ask{0, mv(api.MMatch, 0, 0), land(40001, 1, 19999), 0}, ask{19999, mv(api.MMatch, 0, 0), land(20002, 1, 0), 0}, ask{40001, mv(api.MMatch, 0, 0), in(0), 0}, ask{20002, mv(api.MMatch, 0, 0), in(19999), 0}, ask{20000, mv(api.MMatch, 0, 0), noLand, api.ErrMove},
	)
}
