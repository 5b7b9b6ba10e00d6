package breaks

import (
	"iter"
	"slices"

	"copyist/piece"
)

// Row is a line of a text with the atoms of its content.
type Row struct {
	From    int
	Content []int
}

// To is where the content ends.
func (r Row) To() int { return r.From + len(r.Content) }

// Rows goes through the lines from the beginning of one up to the end of one. Their atoms are read at once, and ahead of all changes: to ask the text for each line would take far longer.
func Rows(t *piece.Text, from, next int) iter.Seq[Row] {
	atoms := t.Atoms(from, next)
	return func(yield func(Row) bool) {
		for at := 0; ; {
			r := Row{From: from + at, Content: content(atoms[at:])}
			if !yield(r) {
				return
			}
			at += len(r.Content)
			at += breakAt(atoms[at:])
			if at == len(atoms) {
				return // an empty text has been one line by then
			}
		}
	}
}

// content is what stands ahead of the first break.
func content(atoms []int) []int {
	if to := slices.IndexFunc(atoms, Is); to >= 0 {
		return atoms[:to]
	}
	return atoms
}

// breakAt tells how many atoms the break has that the atoms begin with.
func breakAt(atoms []int) int {
	switch {
	case beginsWith(atoms, carriage) && beginsWith(atoms[1:], lineFeed):
		return 2
	case len(atoms) > 0:
		return 1
	}
	return 0
}
