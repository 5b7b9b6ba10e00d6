package glyph_test

import (
	"testing"

	"copyist/glyph"
)

func TestP201ClassOfEveryInt(t *testing.T) {
	same(t, "Class", glyph.Class, plainClass(heads(t, classTable)))
}

func TestP201ClassAtTheEndsOfRanges(t *testing.T) {
	outside := plainClass(map[int]string{})
	holdEnds(t, "Class", classTable, glyph.Class, func(s span) int { return classNames[s.head] }, outside)
	hold(t, "Class", glyph.Class,
		example{0xABFF, glyph.Other}, example{0xD7A3, glyph.HangulLVT}, example{0xD7A4, glyph.Other},
		example{0xD7FF, glyph.Other}, example{0xD800, glyph.Control}, example{0xDFFF, glyph.Control}, example{0xE000, glyph.Other})
}

func TestP201Examples(t *testing.T) {
	hold(t, "Class", glyph.Class,
		example{'e', glyph.Other}, example{0x301, glyph.Extend}, example{0x1F1E6, glyph.Regional},
		example{0xAC00, glyph.HangulLV}, example{0xAC01, glyph.HangulLVT}, example{0xAC1B, glyph.HangulLVT}, example{0xAC1C, glyph.HangulLV},
		example{-256, glyph.Control}, example{0xD800, glyph.Control}, example{0x110000, glyph.Control}, example{-300, glyph.Control},
		example{0x1F600, glyph.Pictograph}, example{0x1F3FB, glyph.Extend}, example{0x200C, glyph.Extend}, example{0x200D, glyph.Joiner},
		example{9, glyph.Control}, example{10, glyph.LF}, example{13, glyph.CR}, example{32, glyph.Other}, example{0x10FFFF, glyph.Other})
}

func TestP202ConjunctOfEveryInt(t *testing.T) {
	consonants := heads(t, conjunctTable)
	class := plainClass(heads(t, classTable))
	same(t, "Conjunct", glyph.Conjunct, func(atom int) int {
		switch atom {
		case 0x94D, 0x9CD, 0xACD, 0xB4D, 0xC4D, 0xD4D:
			return glyph.Linker
		case 0x200C:
			return glyph.NoConjunct
		}
		if c := class(atom); c == glyph.Extend || c == glyph.Joiner {
			return glyph.Extending
		}
		if consonants[atom] != "" {
			return glyph.Consonant
		}
		return glyph.NoConjunct
	})
}

func TestP202Examples(t *testing.T) {
	hold(t, "Conjunct", glyph.Conjunct,
		example{0x915, glyph.Consonant}, example{0x94D, glyph.Linker}, example{0x93C, glyph.Extending},
		example{0x200D, glyph.Extending}, example{0x200C, glyph.NoConjunct},
		example{0x914, glyph.NoConjunct}, example{0x939, glyph.Consonant}, example{0xD3A, glyph.Consonant}, example{0xD3B, glyph.Extending},
		example{0xA4D, glyph.Extending}, example{0xCCD, glyph.Extending}, example{'k', glyph.NoConjunct},
		example{-1, glyph.NoConjunct}, example{0xD900, glyph.NoConjunct}, example{0x110915, glyph.NoConjunct})
}

func TestP203WordOfEveryInt(t *testing.T) {
	kinds := map[string]int{"Blank": glyph.Blank, "Letter": glyph.Letter, "": glyph.Sign}
	table := heads(t, wordTable)
	same(t, "Word", glyph.Word, func(atom int) int { return kinds[table[atom]] })
	holdEnds(t, "Word", wordTable, glyph.Word, func(s span) int { return kinds[s.head] }, func(int) int { return glyph.Sign })
}

func TestP203Examples(t *testing.T) {
	hold(t, "Word", glyph.Word,
		example{' ', glyph.Blank}, example{'_', glyph.Letter}, example{'-', glyph.Sign}, example{0xE9, glyph.Letter}, example{-1 - 0xE9, glyph.Sign},
		example{9, glyph.Blank}, example{10, glyph.Blank}, example{13, glyph.Blank}, example{8, glyph.Sign}, example{14, glyph.Sign},
		example{0xD7, glyph.Sign}, example{0xF7, glyph.Sign}, example{0x3000, glyph.Blank}, example{0x323AF, glyph.Letter}, example{0x323B0, glyph.Sign},
		example{0xD800, glyph.Sign}, example{0xDFFF, glyph.Sign}, example{-256, glyph.Sign}, example{-257, glyph.Sign}, example{0x110000, glyph.Sign})
}
