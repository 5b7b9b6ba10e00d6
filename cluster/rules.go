package cluster

import "copyist/glyph"

// joined tells whether the rules R1 to R13 keep the atoms on the two sides of an offset together. It is handed their classes, since a scanner knows one of them already.
func joined(atoms []int, k, left, right int) bool {
	switch {
	case left == glyph.CR && right == glyph.LF: // R1
		return true
	case isAlone(left): // R2
		fallthrough
	case isAlone(right): // R3
		return false
	case left == glyph.HangulL && isHead(right): // R4
		fallthrough
	case (left == glyph.HangulLV || left == glyph.HangulV) && (right == glyph.HangulV || right == glyph.HangulT): // R5
		fallthrough
	case (left == glyph.HangulLVT || left == glyph.HangulT) && right == glyph.HangulT: // R6
		fallthrough
	case right == glyph.Extend || right == glyph.Joiner: // R7
		fallthrough
	case right == glyph.SpacingMark: // R8
		fallthrough
	case left == glyph.Prepend: // R9
		fallthrough
	case isMark(left) && inConjunct(atoms, k): // R10
		fallthrough
	case left == glyph.Joiner && right == glyph.Pictograph && inPicture(atoms, k): // R11
		fallthrough
	case left == glyph.Regional && right == glyph.Regional && inFlag(atoms, k): // R12
		return true
	}
	return false // R13
}

func isAlone(class int) bool {
	return class == glyph.CR || class == glyph.LF || class == glyph.Control
}

// isHead tells whether a class goes on with a syllable of which only first consonants have come.
func isHead(class int) bool {
	switch class {
	case glyph.HangulL, glyph.HangulV, glyph.HangulLV, glyph.HangulLVT:
		return true
	}
	return false
}

// isMark tells the only classes that an Extending or a Linker has: at any other no row of R10 ends, and nothing is looked up.
func isMark(class int) bool {
	return class == glyph.Extend || class == glyph.Joiner
}
