package lines

import (
	"iter"

	"copyist/api"
	"copyist/piece"
)

// All goes through the lines of a text, with their numbers.
func All(t *piece.Text) iter.Seq2[int, api.Line] {
	return func(yield func(int, api.Line) bool) {
		r := reader{text: t}
		for number, from := 0, 0; ; number++ {
			line := r.line(from)
			if isTail(number, line) || !yield(number, line) || line.Break == api.NoBreak {
				return
			}
			// It only goes on upwards, so it ends, whatever is done to the text meanwhile.
			from = line.Next
		}
	}
}

// window is how many atoms a reader asks for at a time: so whoever leaves early has not paid for the whole text.
const window = 512

// reader reads a text upwards.
type reader struct {
	text  *piece.Text
	start int   // the offset of the first atom that is at hand
	atoms []int // those at hand
}

// atom tells the atom at an offset, if there is one. No offset is below one that was asked for earlier.
func (r *reader) atom(at int) (int, bool) {
	if at >= r.start+len(r.atoms) {
		r.start, r.atoms = at, r.text.Atoms(at, at+window)
	}
	if len(r.atoms) == 0 {
		return 0, false
	}
	return r.atoms[at-r.start], true
}

// line tells the line that begins at an offset.
func (r *reader) line(from int) api.Line {
	for at := from; ; at++ {
		atom, ok := r.atom(at)
		if !ok {
			return api.Line{From: from, To: at, Next: at, Break: api.NoBreak}
		}
		if atom == lineFeed || atom == carriage {
			kind := r.kind(atom, at+1)
			return api.Line{From: from, To: at, Next: at + width(kind), Break: kind}
		}
	}
}

// kind tells the kind of the break that begins with an atom, by what stands behind it.
func (r *reader) kind(first, behind int) int {
	if first == lineFeed {
		return api.LF
	}
	if next, ok := r.atom(behind); ok && next == lineFeed {
		return api.CRLF
	}
	return api.CR
}
