package motion_test

import (
	"math"
	"testing"

	"copyist/api"
)

// Every short text of a letter, a sign, a blank, an accent and the two halves of breaks: every call, at every offset.
func TestShortTexts(t *testing.T) {
	t.Parallel()
	for i, atoms := range short("a, \u0301\n\r", 4) {
		p := pairOf(t, wide[i%3], atoms)
		for _, at := range p.offsets() {
			p.all(t, at, []int{i % 4}, 'a', 0x301)
		}
	}
}

// The same without accents, in each encoding.
func TestShortTextsInEachEncoding(t *testing.T) {
	t.Parallel()
	for i, atoms := range short("a. \n\r", 3) {
		for _, enc := range encodings {
			p := pairOf(t, enc, atoms)
			for _, at := range p.offsets() {
				p.all(t, at, []int{i % 3}, 'a', '.')
			}
		}
	}
}

func TestShortPlaces(t *testing.T) {
	t.Parallel()
	for i, atoms := range short("a\u0301\n\r", 6) {
		p := pairOf(t, wide[i%3], atoms)
		for _, at := range p.offsets() {
			p.places(t, at)
		}
		for line := -1; line <= p.doc.count+1; line++ {
			for col := -1; col <= 7; col++ {
				p.place(t, line, col)
			}
		}
		for _, far := range []int{math.MinInt, math.MaxInt} {
			p.place(t, far, 0)
			p.place(t, far, far)
			p.place(t, 0, far)
			p.place(t, far, -1-far)
		}
	}
}

// Place of an offset's line and column is the offset, clamped (but in the tail).
func TestPlaceAndColumn(t *testing.T) {
	t.Parallel()
	for i, atoms := range short("a\u0301\n\r", 5) {
		p := pairOf(t, wide[i%3], atoms)
		for at := range len(atoms) + 1 {
			if line := p.doc.of(at); line < p.doc.count {
				p.sameAsClamped(t, line, at)
			}
		}
	}
}

func TestShortChars(t *testing.T) {
	t.Parallel()
	for i, atoms := range short("ab\u0301\n", 5) {
		p := pairOf(t, wide[i%3], atoms)
		for at := range len(atoms) + 1 {
			for _, kind := range charKinds {
				for _, k := range []int{0, 2, 3} {
					p.chars(t, at, mv(kind, k, 'a'))
				}
			}
		}
	}
}

func TestShortWords(t *testing.T) {
	t.Parallel()
	for i, atoms := range short("a, \n", 5) {
		p := pairOf(t, encodings[i%4], atoms)
		for at := range len(atoms) + 1 {
			for _, kind := range wordKinds {
				for k := range 4 {
					p.words(t, at, mv(kind, k, 0))
				}
			}
		}
	}
}

func TestShortParas(t *testing.T) {
	t.Parallel()
	for i, atoms := range short("a \n", 7) {
		p := pairOf(t, encodings[i%4], atoms)
		for at := range len(atoms) + 1 {
			for k := range 4 {
				p.paras(t, at, mv(api.MParaNext, k, 0))
				p.paras(t, at, mv(api.MParaPrev, k, 0))
			}
		}
	}
}

func TestShortMatches(t *testing.T) {
	t.Parallel()
	for i, atoms := range short("(){\n\u0301", 5) {
		p := pairOf(t, wide[i%3], atoms)
		for at := range len(atoms) + 1 {
			p.paras(t, at, mv(api.MMatch, i%4, 0))
		}
	}
	for i, atoms := range short("[]{}(", 5) {
		p := pairOf(t, encodings[i%4], atoms)
		for at := range len(atoms) + 1 {
			p.paras(t, at, mv(api.MMatch, 0, 0))
		}
	}
}

func TestShortSpans(t *testing.T) {
	t.Parallel()
	for i, atoms := range short("a\u0301\n\r", 5) {
		p := pairOf(t, wide[i%3], atoms)
		for a := -1; a <= len(atoms)+1; a++ {
			for b := -1; b <= len(atoms)+1; b++ {
				for kind := -1; kind <= 3; kind++ {
					p.between(t, a, b, kind)
				}
			}
		}
	}
}

func TestShortReaches(t *testing.T) {
	t.Parallel()
	for i, atoms := range short("a, \n", 5) {
		p := pairOf(t, encodings[i%4], atoms)
		for at := range len(atoms) + 1 {
			for k := range 4 {
				p.reach(t, at, mv(api.MWord, k, 0))
				p.reach(t, at, mv(api.MBigWord, k, 0))
			}
		}
	}
}
