package codec

import "copyist/api"

// coder is what an encoding does to one atom at a time. The bytes that its methods are given are never none.
type coder interface {
	// size tells how many bytes an atom has; 0, if it does not fit.
	size(atom int) int
	// put lays an atom that fits behind what is there.
	put(out []byte, atom int) []byte
	// first tells the atom that bytes begin with, and how many of them it takes.
	first(b []byte) (int, int)
	// last tells the atom that bytes end with, and how many of them it takes.
	last(b []byte) (int, int)
	// waits tells whether bytes to come may change how the first atom is read.
	waits(b []byte) bool
	// mark gives the byte order mark, in new memory.
	mark() []byte
}

func coderOf(enc int) (coder, bool) {
	switch enc {
	case api.UTF8:
		return narrow{}, true
	case api.UTF16LE:
		return wide{low: 0}, true
	case api.UTF16BE:
		return wide{low: 1}, true
	case api.Latin1:
		return latin{}, true
	}
	return nil, false
}

const (
	firstUnit  = 0xD800 // the surrogate units: high ones up to firstLow, low ones from there on
	firstLow   = 0xDC00
	lastUnit   = 0xDFFF
	firstPair  = 0x10000 // from here on a scalar takes two units
	lastScalar = 0x10FFFF
)

func isUnit(atom int) bool { return firstUnit <= atom && atom <= lastUnit }

func isScalar(atom int) bool { return 0 <= atom && atom <= lastScalar && !isUnit(atom) }

func isRaw(atom int) bool { return -256 <= atom && atom <= -1 }

// A raw byte and its atom are each other's mirror, so one rule serves both ways.
func rawAtom(b byte) int { return -1 - int(b) }

func rawByte(atom int) byte { return byte(-1 - atom) }
