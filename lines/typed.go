package lines

import (
	"copyist/api"
	"copyist/piece"
)

// Typed tells the atoms that typed text (10: a line end) is to be put in as, at an offset.
func Typed(t *piece.Text, at int, typed []int, native int) ([]int, api.Errno) {
	if native != api.LF && native != api.CRLF && native != api.CR {
		return nil, api.ErrArg
	}
	if at < 0 || at > t.Len() {
		return nil, api.ErrRange
	}
	out := make([]int, 0, len(typed))
	for i, atom := range typed {
		if atom != lineFeed {
			out = append(out, atom)
			continue
		}
		kind := native
		last := i+1 == len(typed)
		if native == api.LF && behindCarriage(t, at, out) || native == api.CR && last && isAtom(t, at, lineFeed) {
			kind = api.CRLF // it begins with 13 and ends with 10, so it melts with nothing
		}
		out = appendBreak(out, kind)
	}
	return out, api.OK
}

// behindCarriage tells whether a 13 is right ahead of what is told next.
func behindCarriage(t *piece.Text, at int, told []int) bool {
	if n := len(told); n > 0 {
		return told[n-1] == carriage
	}
	return isAtom(t, at-1, carriage)
}

// isAtom tells whether a text has that atom at an offset.
func isAtom(t *piece.Text, at, atom int) bool {
	found := t.Atoms(at, at+1)
	return len(found) == 1 && found[0] == atom
}

func appendBreak(atoms []int, kind int) []int {
	switch kind {
	case api.LF:
		return append(atoms, lineFeed)
	case api.CR:
		return append(atoms, carriage)
	}
	return append(atoms, carriage, lineFeed)
}
