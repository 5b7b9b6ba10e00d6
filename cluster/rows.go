package cluster

import "copyist/glyph"

// inConjunct tells whether R10 speaks at an offset: a Consonant stands behind it, and ahead of it a row of Extendings with a Linker among them, and a Consonant ahead of that.
func inConjunct(atoms []int, k int) bool {
	if glyph.Conjunct(atoms[k]) != glyph.Consonant {
		return false
	}
	linked := false
row:
	for i := k - 1; i >= 0; i-- {
		switch glyph.Conjunct(atoms[i]) {
		case glyph.Linker:
			linked = true
			fallthrough // a Linker goes on with the row as an Extending does
		case glyph.Extending:
			continue row
		case glyph.Consonant:
			return linked
		default:
			break row
		}
	}
	return false
}

// inPicture tells whether R11 speaks at an offset with a Joiner ahead of it and a Pictograph behind it.
func inPicture(atoms []int, k int) bool {
row:
	for i := k - 2; i >= 0; i-- {
		switch glyph.Class(atoms[i]) {
		case glyph.Extend:
			continue row
		case glyph.Pictograph:
			return true
		default:
			break row
		}
	}
	return false
}

// inFlag tells whether R12 speaks at an offset between two Regionals: the one ahead of it is still without a fellow.
func inFlag(atoms []int, k int) bool {
	row := 1
	for i := k - 2; i >= 0 && glyph.Class(atoms[i]) == glyph.Regional; i-- {
		row++
	}
	return row%2 == 1
}
