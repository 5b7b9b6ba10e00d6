package modal

import (
	"copyist/api"
	"copyist/glyph"
)

const (
	tab      = 9
	lineFeed = 10

	// registers
	ofTyping  = '.'
	ofLine    = ':'
	ofPattern = '/'
	unnamed   = '"'
	played    = '@' // no register, but the one that was played last

	// marks
	jumpMark = '\''
	jumpAlso = '`' // the same mark, spelled otherwise
	lowMark  = '<'
	highMark = '>'
)

func isScalar(key int) bool {
	return key >= 0 && key < 0xD800 || key > 0xDFFF && key <= 0x10FFFF
}

// isAtom tells whether an int is an atom: the scalars, the lone units between them, the raw bytes below.
func isAtom(atom int) bool { return atom >= -256 && atom <= 0x10FFFF }

// isTyped tells whether a key stands for itself where text is typed.
func isTyped(key int) bool {
	return key == tab || isScalar(key) && key >= ' ' && key != api.KeyDelete
}

// isLiteral tells whether a key may be made to stand for itself.
func isLiteral(key int) bool {
	return isScalar(key) && key != lineFeed && key != api.KeyReturn
}

func isSmall(name int) bool { return name >= 'a' && name <= 'z' }

func isGreat(name int) bool { return name >= 'A' && name <= 'Z' }

// small is the small letter of a great one, and any other name itself.
func small(name int) int {
	if isGreat(name) {
		return name - 'A' + 'a'
	}
	return name
}

// markName is the name of a mark, however it is spelled.
func markName(name int) int {
	if name == jumpAlso {
		return jumpMark
	}
	return name
}

// times is the count, or 1 without one.
func times(c api.Cmd) int { return max(c.Count, 1) }

// wordStart tells where the last word begins, with the blanks behind it.
func wordStart(atoms []int) int {
	at := sameBack(atoms, len(atoms), glyph.Blank)
	if at == 0 {
		return 0
	}
	return sameBack(atoms, at, glyph.Word(atoms[at-1]))
}

// sameBack goes back from an offset over atoms of one kind.
func sameBack(atoms []int, at, kind int) int {
	for at > 0 && glyph.Word(atoms[at-1]) == kind {
		at--
	}
	return at
}
