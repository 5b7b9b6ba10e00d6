package glyph_test

import (
	"testing"

	"copyist/glyph"
)

var onlyUpper = map[int]int{0xB5: 0x39C, 0x131: 0x49, 0x17F: 0x53, 0x3C2: 0x3A3}

var onlyLower = map[int]int{0x130: 0x69, 0x1E9E: 0xDF, 0x2126: 0x3C9, 0x212A: 0x6B, 0x212B: 0xE5}

// plainCases lays P204 out: what Upper and Lower answer, for each letter that they turn.
func plainCases(t *testing.T) (upper, lower map[int]int) {
	t.Helper()
	upper, lower = map[int]int{}, map[int]int{}
	put := func(to map[int]int, atom, turned int) {
		if _, twice := to[atom]; twice {
			t.Fatalf("%X stands twice", atom)
		}
		to[atom] = turned
	}
	for _, s := range spans(t, distanceTable) {
		for great := s.from; great <= s.to; great++ {
			put(lower, great, great+s.distance)
			put(upper, great+s.distance, great)
		}
	}
	for _, s := range spans(t, pairsTable) {
		for great := s.from; great < s.to; great += 2 {
			put(lower, great, great+1)
			put(upper, great+1, great)
		}
	}
	for atom, turned := range onlyUpper {
		put(upper, atom, turned)
	}
	for atom, turned := range onlyLower {
		put(lower, atom, turned)
	}
	return upper, lower
}

func turnedBy(turns map[int]int) func(int) int {
	return func(atom int) int {
		if turned, ok := turns[atom]; ok {
			return turned
		}
		return atom
	}
}

func TestP204CasesOfEveryInt(t *testing.T) {
	upper, lower := plainCases(t)
	same(t, "Upper", glyph.Upper, turnedBy(upper))
	same(t, "Lower", glyph.Lower, turnedBy(lower))
}

func TestP204ByADistance(t *testing.T) {
	for _, s := range spans(t, distanceTable) {
		for _, great := range []int{s.from, s.to} {
			hold(t, "Lower", glyph.Lower, example{great, great + s.distance})
			hold(t, "Upper", glyph.Upper, example{great + s.distance, great})
		}
	}
	hold(t, "Lower", glyph.Lower, example{0x40, 0x40}, example{0x5B, 0x5B}, example{0xD7, 0xD7}, example{0x3A2, 0x3A2})
	hold(t, "Upper", glyph.Upper, example{0x60, 0x60}, example{0x7B, 0x7B}, example{0xF7, 0xF7}, example{0xDF, 0xDF})
}

func TestP204ByTurns(t *testing.T) {
	for _, s := range spans(t, pairsTable) {
		hold(t, "Lower", glyph.Lower, example{s.from, s.from + 1}, example{s.from + 1, s.from + 1}, example{s.to - 1, s.to}, example{s.to, s.to})
		hold(t, "Upper", glyph.Upper, example{s.from, s.from}, example{s.from + 1, s.from}, example{s.to - 1, s.to - 1}, example{s.to, s.to - 1})
	}
	hold(t, "Lower", glyph.Lower, example{0x138, 0x138}, example{0x149, 0x149}, example{0x234, 0x234}, example{0x1E96, 0x1E96})
	hold(t, "Upper", glyph.Upper, example{0x138, 0x138}, example{0x149, 0x149}, example{0x234, 0x234}, example{0x1E96, 0x1E96})
}

func TestP204OneWay(t *testing.T) {
	for atom, turned := range onlyUpper {
		hold(t, "Upper", glyph.Upper, example{atom, turned})
		hold(t, "Lower", glyph.Lower, example{atom, atom})
	}
	for atom, turned := range onlyLower {
		hold(t, "Lower", glyph.Lower, example{atom, turned})
		hold(t, "Upper", glyph.Upper, example{atom, atom})
	}
}

func TestP204Examples(t *testing.T) {
	hold(t, "Upper", glyph.Upper, example{'z', 'Z'}, example{0xFF, 0x178}, example{0xDF, 0xDF}, example{0x3C2, 0x3A3})
	hold(t, "Lower", glyph.Lower, example{0x130, 'i'})
}

func TestP204IntsThatAreNoScalars(t *testing.T) {
	for _, atom := range append([]int{-1, -98, -256, -257, 0xD800, 0xD841, 0xDFFF, 0x110000, 0x110061}, strange...) {
		hold(t, "Upper", glyph.Upper, example{atom, atom})
		hold(t, "Lower", glyph.Lower, example{atom, atom})
		hold(t, "Turn", glyph.Turn, example{atom, atom})
	}
}

func TestP205TurnOfEveryInt(t *testing.T) {
	upper, lower := plainCases(t)
	up, low := turnedBy(upper), turnedBy(lower)
	same(t, "Turn", glyph.Turn, func(atom int) int {
		if up(atom) != atom {
			return up(atom)
		}
		return low(atom)
	})
}

func TestP205Examples(t *testing.T) {
	hold(t, "Turn", glyph.Turn,
		example{'a', 'A'}, example{'A', 'a'}, example{0x131, 'I'}, example{0x130, 'i'}, example{'1', '1'}, example{-66, -66},
		example{0x1E9E, 0xDF}, example{0xDF, 0xDF}, example{0xB5, 0x39C}, example{0xFF, 0x178}, example{0x178, 0xFF})
}
