package object_test

import (
	"math"
	"testing"

	"copyist/api"
)

// Every short text of a letter, a sign, a blank, an accent and the two halves of breaks, with every object at every offset.
func TestShortTexts(t *testing.T) {
	t.Parallel()
	for i, atoms := range short("a( \u0301\n\r", 4) {
		pairOf(t, wide[i%3], atoms).all(t, i%4)
	}
}

// The same without accents, in each encoding.
func TestShortTextsInEachEncoding(t *testing.T) {
	t.Parallel()
	for i, atoms := range short("a\" \n\r", 3) {
		for _, enc := range encodings {
			pairOf(t, enc, atoms).all(t, 0, 1+i%3, math.MaxInt)
		}
	}
}

// ask asks at every offset of a text for some kinds, with some counts.
func (p pair) ask(t *testing.T, kinds []int, arg int, counts ...int) {
	t.Helper()
	for at := range p.text.Len() + 1 {
		for _, kind := range kinds {
			for _, k := range counts {
				p.same(t, at, mv(kind, k, arg))
			}
		}
	}
}

func TestShortWords(t *testing.T) {
	t.Parallel()
	for i, atoms := range short("a, \n", 6) {
		pairOf(t, encodings[i%4], atoms).ask(t, wordKinds, 0, 0, 2, 3)
	}
	for i, atoms := range short("a, \u0301", 5) {
		pairOf(t, wide[i%3], atoms).ask(t, wordKinds, 0, 1, 2, 3, 4)
	}
}

func TestShortQuotes(t *testing.T) {
	t.Parallel()
	for i, atoms := range short("'\\ \n", 6) {
		pairOf(t, encodings[i%4], atoms).ask(t, quoteKinds, '\'', 0, 2)
	}
	for i, atoms := range short("\"\\ \u0301", 6) {
		pairOf(t, wide[i%3], atoms).ask(t, quoteKinds, '"', 0, 2)
	}
	for i, atoms := range short("`a ", 7) {
		pairOf(t, encodings[i%4], atoms).ask(t, quoteKinds, '`', 1)
	}
}

func TestShortBlocks(t *testing.T) {
	t.Parallel()
	for i, atoms := range short("()a", 7) {
		pairOf(t, encodings[i%4], atoms).ask(t, blockKinds, '(', 0, 2, 3)
	}
	for i, atoms := range short("{} \n", 6) {
		pairOf(t, encodings[i%4], atoms).ask(t, blockKinds, '{', 0, 2)
	}
	for i, atoms := range short("[]\u0301\n\r", 5) {
		pairOf(t, wide[i%3], atoms).ask(t, blockKinds, '[', 0, 2)
	}
	for i, atoms := range short("<>(\n", 5) {
		pairOf(t, encodings[i%4], atoms).ask(t, blockKinds, '<', 0, 2)
	}
}

func TestShortParas(t *testing.T) {
	t.Parallel()
	for i, atoms := range short("a \n", 7) {
		pairOf(t, encodings[i%4], atoms).ask(t, paraKinds, 0, 0, 2, 3)
	}
	for i, atoms := range short("a\n\r", 7) {
		pairOf(t, encodings[i%4], atoms).ask(t, paraKinds, 0, 1, 2)
	}
	for i, atoms := range short(" \u0301\n", 6) {
		pairOf(t, wide[i%3], atoms).ask(t, paraKinds, 0, 1, 2)
	}
}

// The empty text has one line, a bare one, and nothing else.
func TestEmptyText(t *testing.T) {
	for _, enc := range encodings {
		p := pairOf(t, enc, nil)
		p.all(t, 0, 1, 2, math.MaxInt)
		for _, kind := range allKinds {
			want := refuse(api.ErrObject)
			if kind == api.OPara {
				want = byLines(0, 0)
			}
			for _, arg := range argsOf(kind) {
				if got := p.doc.take(0, mv(kind, 0, arg)); got != want {
					t.Errorf("the plain reading of kind %d: %+v, want %+v", kind, got, want)
				}
			}
		}
	}
}
