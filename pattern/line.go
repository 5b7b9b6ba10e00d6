package pattern

import (
	"slices"

	"copyist/api"
	"copyist/piece"
)

// line is a line in which something is sought. Of a long one no more is read than ways go over, and each time as much again as is at hand: so a match that is near costs little.
type line struct {
	size  int
	low   int   // the offset of the first atom at hand
	atoms []int // those at hand
	text  *piece.Text
	begin int // where it stands in the text
}

// whole is a line all of which is at hand.
func whole(atoms []int) line { return line{size: len(atoms), atoms: atoms} }

// lineIn is a line of a text, of which nothing is at hand yet; it is read from an offset on, upwards and downwards.
func lineIn(t *piece.Text, l api.Line, at int) line {
	return line{size: l.To - l.From, low: at, text: t, begin: l.From}
}

// readUp reads on until an offset is at hand.
func (l *line) readUp(at int) {
	end := l.low + len(l.atoms)
	to := min(max(at+1, end+len(l.atoms), end+window), l.size)
	l.atoms = append(l.atoms, l.text.Atoms(l.begin+end, l.begin+to)...)
}

// readDown reads back until an offset is at hand.
func (l *line) readDown(at int) {
	low := max(min(at, l.low-len(l.atoms), l.low-window), 0)
	l.atoms = slices.Concat(l.text.Atoms(l.begin+low, l.begin+l.low), l.atoms)
	l.low = low
}
