package glyph_test

import (
	"testing"

	"copyist/glyph"
)

func TestP206WidthOfEveryInt(t *testing.T) {
	wide := heads(t, wideTable)
	class := plainClass(heads(t, classTable))
	same(t, "Width", glyph.Width, func(atom int) int {
		if atom < -256 || atom > 0x10FFFF {
			return 0
		}
		if atom < 0 {
			return 4
		}
		if lone(atom) {
			return 6
		}
		switch class(atom) {
		case glyph.CR, glyph.LF, glyph.Extend, glyph.Joiner, glyph.HangulV, glyph.HangulT:
			return 0
		case glyph.Control:
			switch {
			case atom == 9:
				return 0
			case atom <= 0x9F:
				return 2
			}
			return 1
		}
		if wide[atom] != "" {
			return 2
		}
		return 1
	})
}

func TestP206Examples(t *testing.T) {
	hold(t, "Width", glyph.Width,
		example{'a', 1}, example{9, 0}, example{7, 2}, example{0x4E00, 2}, example{0x301, 0}, example{0xAD, 1},
		example{-1, 4}, example{0xDC00, 6}, example{1 << 40, 0}, example{-257, 0})
}

func TestP206Edges(t *testing.T) {
	hold(t, "Width", glyph.Width,
		example{-256, 4}, example{0x10FFFF, 1}, example{0x110000, 0}, example{0xD7FF, 1}, example{0xD800, 6}, example{0xDFFF, 6}, example{0xE000, 1},
		example{8, 2}, example{10, 0}, example{11, 2}, example{13, 0}, example{0x9F, 2}, example{0xA0, 1}, example{0x61C, 1},
		example{0x302A, 0}, example{0x3030, 2}, example{0x303E, 2}, example{0x303F, 1}, example{0x3099, 0},
		example{0x115F, 2}, example{0x1160, 0}, example{0xD7B0, 0}, example{0xD7CB, 0}, example{0x1F3FB, 0}, example{0x3FFFD, 2}, example{0x3FFFE, 1})
}

var calls = []struct {
	name string
	call func(int) int
}{
	{"Class", glyph.Class}, {"Conjunct", glyph.Conjunct}, {"Word", glyph.Word}, {"Upper", glyph.Upper},
	{"Lower", glyph.Lower}, {"Turn", glyph.Turn}, {"Width", glyph.Width},
}

// Asked ahead, behind and among other calls, an atom has the same facts each time.
func TestP207NothingIsKept(t *testing.T) {
	for _, c := range calls {
		first := map[int]int{}
		for atom := -300; atom <= 0x3400; atom++ {
			first[atom] = c.call(atom)
		}
		for atom := 0x3400; atom >= -300; atom-- {
			for _, other := range calls {
				other.call(atom ^ 0x155)
			}
			hold(t, c.name, c.call, example{atom, first[atom]}, example{atom, first[atom]})
		}
	}
}

func TestP207AtTheSameTime(t *testing.T) {
	for _, c := range calls {
		t.Run(c.name, func(t *testing.T) {
			t.Parallel()
			for atom := -300; atom <= 0x3400; atom++ {
				hold(t, c.name, c.call, example{atom, c.call(atom)})
			}
		})
	}
}
