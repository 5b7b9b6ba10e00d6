package motion_test

import (
	"testing"

	"copyist/api"
	"copyist/motion"
	"copyist/piece"
)

// page is the text of the chapter's examples.
const page = "ab, cd\n\n  x(y[z)\r\ne\u0301f"

var noLand = api.Land{}

// ask is a motion from an offset, and what it answers.
type ask struct {
	at   int
	m    api.Move
	want api.Land
	err  api.Errno
}

type call func(x *piece.Text, at int, m api.Move) (api.Land, api.Errno)

func chars(past bool) call {
	return func(x *piece.Text, at int, m api.Move) (api.Land, api.Errno) { return motion.Chars(x, at, m, past) }
}

func words(past bool) call {
	return func(x *piece.Text, at int, m api.Move) (api.Land, api.Errno) { return motion.Words(x, at, m, past) }
}

func rows(goal int) call {
	return func(x *piece.Text, at int, m api.Move) (api.Land, api.Errno) { return motion.Rows(x, at, goal, m) }
}

// hold asks in each of some encodings.
func hold(t *testing.T, encs []int, text string, f call, asks ...ask) {
	t.Helper()
	for _, enc := range encs {
		x := load(t, enc, spell(text))
		for _, a := range asks {
			if got, e := f(x, a.at, a.m); got != a.want || e != a.err {
				t.Errorf("encoding %d, %q at %d, %+v: %+v, %d, want %+v, %d", enc, text, a.at, a.m, got, e, a.want, a.err)
			}
		}
	}
}

func TestExamplePlaces(t *testing.T) {
	for _, enc := range wide {
		x := load(t, enc, spell(page))
		for _, c := range []struct{ at, not, past int }{{6, 5, 6}, {7, 7, 7}, {17, 15, 16}, {19, 18, 18}, {21, 20, 21}, {99, 20, 21}, {-1, 0, 0}} {
			if not, past := motion.Clamp(x, c.at, false), motion.Clamp(x, c.at, true); not != c.not || past != c.past {
				t.Errorf("Clamp(%d): %d and %d, want %d and %d", c.at, not, past, c.not, c.past)
			}
		}
		for _, c := range [][2]int{{3, 3}, {6, 6}, {7, 0}, {17, 8}, {19, 0}, {20, 1}, {21, 2}} {
			if got := motion.Column(x, c[0]); got != c[1] {
				t.Errorf("Column(%d): %d, want %d", c[0], got, c[1])
			}
		}
		for _, c := range []struct {
			line, col int
			past      bool
			want      int
		}{{0, 9, false, 5}, {0, 9, true, 6}, {3, 1, false, 20}, {-4, 2, true, 2}, {9, 0, false, 18}} {
			if got := motion.Place(x, c.line, c.col, c.past); got != c.want {
				t.Errorf("Place(%d, %d, %v): %d, want %d", c.line, c.col, c.past, got, c.want)
			}
		}
	}
}

func TestExampleChars(t *testing.T) {
	hold(t, wide, page, chars(false),
		ask{1, mv(api.MRight, 3, 0), land(4, api.Exclusive, 4), 0},
		ask{1, mv(api.MRight, 9, 0), land(5, api.Exclusive, 5), 0},
		ask{5, mv(api.MRight, 0, 0), noLand, api.ErrMove},
		ask{1, mv(api.MEnd, 3, 0), land(15, api.Inclusive, 100000), 0},
		ask{0, mv(api.MFind, 0, 'd'), land(5, api.Inclusive, 5), 0},
		ask{0, mv(api.MTill, 0, 'd'), land(4, api.Inclusive, 4), 0},
		ask{0, mv(api.MFind, 0, 'z'), noLand, api.ErrMove},
		ask{18, mv(api.MFind, 0, 'e'), noLand, api.ErrMove},
		ask{20, mv(api.MFindBack, 0, 'e'), land(18, api.Exclusive, 0), 0},
		ask{20, mv(api.MTillBack, 0, 'e'), land(20, api.Exclusive, 1), 0},
	)
	hold(t, wide, page, chars(true),
		ask{1, mv(api.MRight, 9, 0), land(6, api.Exclusive, 6), 0},
		ask{5, mv(api.MRight, 0, 0), land(6, api.Exclusive, 6), 0},
	)
}

func TestExampleRows(t *testing.T) {
	hold(t, wide, page, rows(4),
		ask{4, mv(api.MDown, 0, 0), land(7, api.Linewise, 4), 0},
		ask{4, mv(api.MDown, 2, 0), land(12, api.Linewise, 4), 0},
		ask{4, mv(api.MDown, 99, 0), land(20, api.Linewise, 4), 0},
		ask{0, mv(api.MNextRow, 2, 0), land(10, api.Linewise, 2), 0},
		ask{0, mv(api.MGoto, 0, 0), land(18, api.Linewise, 0), 0},
		ask{0, mv(api.MPercent, 50, 0), land(7, api.Linewise, 0), 0},
		ask{0, mv(api.MPercent, 101, 0), noLand, api.ErrMove},
	)
}

func TestExampleWords(t *testing.T) {
	hold(t, wide, page, words(false),
		ask{0, mv(api.MWord, 0, 0), land(2, api.Exclusive, 2), 0},
		ask{0, mv(api.MWord, 2, 0), land(4, api.Exclusive, 4), 0},
		ask{0, mv(api.MWord, 3, 0), land(7, api.Exclusive, 0), 0},
		ask{0, mv(api.MWord, 4, 0), land(10, api.Exclusive, 2), 0},
		ask{0, mv(api.MWord, 5, 0), land(11, api.Exclusive, 3), 0},
		ask{0, mv(api.MWord, 99, 0), land(20, api.Exclusive, 1), 0},
		ask{0, mv(api.MBigWord, 0, 0), land(4, api.Exclusive, 4), 0},
		ask{0, mv(api.MWordEnd, 0, 0), land(1, api.Inclusive, 1), 0},
		ask{0, mv(api.MBigEnd, 0, 0), land(2, api.Inclusive, 2), 0},
		ask{0, mv(api.MRest, 0, 0), land(1, api.Inclusive, 1), 0},
		ask{20, mv(api.MWord, 0, 0), noLand, api.ErrMove},
		ask{20, mv(api.MBack, 0, 0), land(18, api.Exclusive, 0), 0},
		ask{20, mv(api.MBack, 99, 0), land(0, api.Exclusive, 0), 0},
		ask{18, mv(api.MBackEnd, 0, 0), land(15, api.Inclusive, 7), 0},
		ask{18, mv(api.MBackEnd, 7, 0), land(7, api.Inclusive, 0), 0},
	)
	hold(t, wide, page, words(true), ask{20, mv(api.MWord, 0, 0), land(21, api.Exclusive, 2), 0})
}

func TestExampleParas(t *testing.T) {
	hold(t, wide, page, motion.Paras,
		ask{0, mv(api.MParaNext, 0, 0), land(7, api.Exclusive, 0), 0},
		ask{0, mv(api.MParaNext, 2, 0), land(20, api.Inclusive, 1), 0},
		ask{20, mv(api.MParaPrev, 0, 0), land(7, api.Exclusive, 0), 0},
		ask{0, mv(api.MParaPrev, 0, 0), noLand, api.ErrMove},
		ask{8, mv(api.MMatch, 0, 0), land(15, api.Inclusive, 7), 0},
		ask{15, mv(api.MMatch, 0, 0), land(11, api.Inclusive, 3), 0},
		ask{13, mv(api.MMatch, 0, 0), noLand, api.ErrMove},
	)
}

func byChars(from, to int) api.Span { return api.Span{From: from, To: to, Kind: api.ByChars} }

func byLines(from, to int) api.Span { return api.Span{From: from, To: to, Kind: api.ByLines} }

// taken is what an operator takes, from an offset with a motion.
type taken struct {
	at   int
	m    api.Move
	want api.Span
	err  api.Errno
}

func takes(t *testing.T, encs []int, text string, all ...taken) {
	t.Helper()
	for _, enc := range encs {
		x := load(t, enc, spell(text))
		for _, c := range all {
			if got, e := motion.Reach(x, c.at, c.m); got != c.want || e != c.err {
				t.Errorf("encoding %d, %q: Reach(%d, %+v): %+v, %d, want %+v, %d", enc, text, c.at, c.m, got, e, c.want, c.err)
			}
		}
	}
}

// stretch is what lies between two offsets.
type stretch struct {
	a, b, kind int
	want       api.Span
	err        api.Errno
}

func lies(t *testing.T, encs []int, text string, all ...stretch) {
	t.Helper()
	for _, enc := range encs {
		x := load(t, enc, spell(text))
		for _, c := range all {
			for _, ends := range [][2]int{{c.a, c.b}, {c.b, c.a}} {
				if got, e := motion.Between(x, ends[0], ends[1], c.kind); got != c.want || e != c.err {
					t.Errorf("encoding %d, %q: Between(%d, %d, %d): %+v, %d, want %+v, %d", enc, text, ends[0], ends[1], c.kind, got, e, c.want, c.err)
				}
			}
		}
	}
}

func TestExampleSpans(t *testing.T) {
	takes(t, wide, page,
		taken{4, mv(api.MWord, 0, 0), byChars(4, 6), 0},
		taken{0, mv(api.MWord, 4, 0), byChars(0, 7), 0},
		taken{20, mv(api.MRight, 5, 0), byChars(20, 21), 0},
		taken{0, mv(api.MParaNext, 0, 0), byChars(0, 6), 0},
		taken{10, mv(api.MMatch, 0, 0), byChars(10, 16), 0},
		taken{10, mv(api.MLines, 2, 0), byLines(8, 21), 0},
	)
	lies(t, wide, page,
		stretch{5, 2, api.Inclusive, byChars(2, 6), 0},
		stretch{7, 7, api.Inclusive, byChars(7, 7), 0},
		stretch{8, 0, api.Exclusive, byChars(0, 7), 0},
		stretch{3, 8, api.Linewise, byLines(0, 18), 0},
	)
}
