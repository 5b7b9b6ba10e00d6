package motion_test

import (
	"fmt"
	"math"
	"slices"
	"testing"

	"copyist/api"
	"copyist/motion"
	"copyist/piece"
)

// The motions of each call, and for each some that it does not know.
var (
	none      = []int{math.MinInt, -1, 0, 19, 20, 34, 41, 43, 49, 53, 59, 61, 64, 70, 1 << 40, math.MaxInt}
	charKinds = []int{api.MLeft, api.MRight, api.MStart, api.MFirst, api.MEnd, api.MBar, api.MFind, api.MFindBack, api.MTill, api.MTillBack}
	rowKinds  = []int{api.MDown, api.MUp, api.MNextRow, api.MPrevRow, api.MHere, api.MGoto, api.MTopRow, api.MPercent}
	wordKinds = []int{api.MWord, api.MBack, api.MWordEnd, api.MBackEnd, api.MBigWord, api.MBigBack, api.MBigEnd, api.MBigBackEnd, api.MRest, api.MBigRest}
	paraKinds = []int{api.MParaNext, api.MParaPrev, api.MMatch}
)

// pair is a text and the same text read plainly.
type pair struct {
	text *piece.Text
	doc  *doc
}

func pairOf(t *testing.T, enc int, atoms []int) pair {
	t.Helper()
	return pair{load(t, enc, atoms), read(atoms)}
}

// offsets gives all of a text, and some outside of it.
func (p pair) offsets() []int {
	out := []int{math.MinInt, -1, p.text.Len() + 1, math.MaxInt}
	for at := range p.text.Len() + 1 {
		out = append(out, at)
	}
	return out
}

func (p pair) fail(t *testing.T, format string, args ...any) {
	t.Helper()
	t.Fatalf("encoding %d, %q: %s", p.text.Enc(), fmt.Sprint(p.doc.atoms), fmt.Sprintf(format, args...))
}

func (p pair) places(t *testing.T, at int) {
	t.Helper()
	for _, past := range []bool{false, true} {
		want := p.doc.clamp(at, past)
		got := motion.Clamp(p.text, at, past)
		if got != want {
			p.fail(t, "Clamp(%d, %v): %d, want %d", at, past, got, want)
		}
		if again := motion.Clamp(p.text, got, past); again != got {
			p.fail(t, "Clamp(%d, %v): %d, and of that %d", at, past, got, again)
		}
	}
	if got, want := motion.Column(p.text, at), p.doc.column(at); got != want {
		p.fail(t, "Column(%d): %d, want %d", at, got, want)
	}
}

func (p pair) place(t *testing.T, line, col int) {
	t.Helper()
	for _, past := range []bool{false, true} {
		if got, want := motion.Place(p.text, line, col, past), p.doc.place(line, col, past); got != want {
			p.fail(t, "Place(%d, %d, %v): %d, want %d", line, col, past, got, want)
		}
	}
}

// sameAsClamped holds Place and Column against Clamp.
func (p pair) sameAsClamped(t *testing.T, line, at int) {
	t.Helper()
	for _, past := range []bool{false, true} {
		col := motion.Column(p.text, at)
		if got, want := motion.Place(p.text, line, col, past), motion.Clamp(p.text, at, past); got != want {
			p.fail(t, "Place(%d, %d, %v): %d, but Clamp(%d): %d", line, col, past, got, at, want)
		}
	}
}

func (p pair) chars(t *testing.T, at int, m api.Move) {
	t.Helper()
	for _, past := range []bool{false, true} {
		got, e := motion.Chars(p.text, at, m, past)
		if want := p.doc.chars(at, m, past); got != want.land || e != want.err {
			p.fail(t, "Chars(%d, %+v, %v): %+v, %d, want %+v", at, m, past, got, e, want)
		}
	}
}

func (p pair) rows(t *testing.T, at, goal int, m api.Move) {
	t.Helper()
	got, e := motion.Rows(p.text, at, goal, m)
	if want := p.doc.rows(at, goal, m); got != want.land || e != want.err {
		p.fail(t, "Rows(%d, %d, %+v): %+v, %d, want %+v", at, goal, m, got, e, want)
	}
}

func (p pair) words(t *testing.T, at int, m api.Move) {
	t.Helper()
	for _, past := range []bool{false, true} {
		got, e := motion.Words(p.text, at, m, past)
		if want := p.doc.wordMove(at, m, past); got != want.land || e != want.err {
			p.fail(t, "Words(%d, %+v, %v): %+v, %d, want %+v", at, m, past, got, e, want)
		}
	}
}

func (p pair) paras(t *testing.T, at int, m api.Move) {
	t.Helper()
	got, e := motion.Paras(p.text, at, m)
	if want := p.doc.paras(at, m); got != want.land || e != want.err {
		p.fail(t, "Paras(%d, %+v): %+v, %d, want %+v", at, m, got, e, want)
	}
}

func (p pair) between(t *testing.T, a, b, kind int) {
	t.Helper()
	got, e := motion.Between(p.text, a, b, kind)
	if want, f := p.doc.between(a, b, kind); got != want || e != f {
		p.fail(t, "Between(%d, %d, %d): %+v, %d, want %+v, %d", a, b, kind, got, e, want, f)
	}
}

func (p pair) reach(t *testing.T, at int, m api.Move) {
	t.Helper()
	got, e := motion.Reach(p.text, at, m)
	if want, f := p.doc.reach(at, m); got != want || e != f {
		p.fail(t, "Reach(%d, %+v): %+v, %d, want %+v, %d", at, m, got, e, want, f)
	}
}

// all asks everything at an offset; what is sought are two atoms.
func (p pair) all(t *testing.T, at int, counts []int, args ...int) {
	t.Helper()
	p.places(t, at)
	ask := func(m api.Move) {
		switch {
		case slices.Contains(charKinds, m.Kind):
			p.chars(t, at, m)
		case slices.Contains(rowKinds, m.Kind):
			p.rows(t, at, m.Count%5, m)
		case slices.Contains(wordKinds, m.Kind):
			p.words(t, at, m)
		case slices.Contains(paraKinds, m.Kind):
			p.paras(t, at, m)
		}
		p.reach(t, at, m)
	}
	for _, kind := range slices.Concat(charKinds, rowKinds, wordKinds, paraKinds, []int{api.MLines, 0, 20}) {
		for _, k := range counts {
			ask(mv(kind, k, args[0]))
			if kind >= api.MFind && kind <= api.MTillBack {
				ask(mv(kind, k, args[1]))
			}
		}
	}
}
