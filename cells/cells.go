// Package cells: the clusters of a text, gone through a window at a time, so that a call reads no more than its way.
package cells

import (
	"iter"

	"copyist/cluster"
	"copyist/glyph"
	"copyist/piece"
)

const (
	lineFeed = 10
	carriage = 13
)

// Cell is a cluster of the text. A break is one too: the rules of clusters part it from all others, and keep its two atoms together.
type Cell struct {
	At, End int
	Atom    int // the first one, which decides what the cell is
}

func (c Cell) IsBreak() bool { return c.Atom == lineFeed || c.Atom == carriage }

// IsSingle tells whether the cell is one atom and nothing else.
func (c Cell) IsSingle() bool { return c.End == c.At+1 }

// Is tells whether the cell is this atom and nothing else.
func (c Cell) Is(atom int) bool { return c.Atom == atom && c.IsSingle() }

// window is how many atoms a scanner reads at first. Each further window is twice as long: so a short way costs little, and of a long one no more than half is read in vain.
const window = 32

// Up goes through the cells from a boundary on, up to the text's end.
func Up(t *piece.Text, at int) iter.Seq[Cell] {
	return func(yield func(Cell) bool) {
		n := t.Len()
	windows:
		for from, size := at, window; from < n; size *= 2 {
			atoms := t.Atoms(from, from+size)
			for k := 0; k < len(atoms); {
				// Ahead of a boundary nothing has a say in what comes behind it.
				end := k + cluster.Next(atoms[k:], 0)
				if end == len(atoms) && from+end < n {
					// Whether the cell ends here hangs on an atom that is not at hand yet.
					from += k
					continue windows
				}
				if !yield(Cell{At: from + k, End: from + end, Atom: atoms[k]}) {
					return
				}
				k = end
			}
			return
		}
	}
}

// Down goes through the cells ahead of a boundary, the nearest first, down to the text's beginning.
func Down(t *piece.Text, at int) iter.Seq[Cell] {
	return func(yield func(Cell) bool) {
		for to, size := at, window; to > 0; size *= 2 {
			from := cut(t, to-size)
			atoms := t.Atoms(from, to)
			bounds := cluster.Breaks(atoms)
			for k := len(bounds) - 2; k >= 0; k-- {
				if !yield(Cell{At: from + bounds[k], End: from + bounds[k+1], Atom: atoms[bounds[k]]}) {
					return
				}
			}
			to = from
		}
	}
}

// Within leaves off at a break.
func Within(all iter.Seq[Cell]) iter.Seq[Cell] {
	return func(yield func(Cell) bool) {
		for c := range all {
			if c.IsBreak() || !yield(c) {
				return
			}
		}
	}
}

// Of tells the cell that the atom at an offset belongs to. At the text's end there is none: a cell of nothing.
func Of(t *piece.Text, at int) Cell {
	for c := range Up(t, cut(t, at)) {
		if c.End > at {
			return c
		}
	}
	return Cell{At: at, End: at}
}

// cut tells a boundary up to an offset, as near as one is known without reading the line from its beginning.
func cut(t *piece.Text, at int) int {
	for size := window; at > 0; size *= 2 {
		from := max(at-size, 0)
		atoms := t.Atoms(from, at+1)
		for k := len(atoms) - 1; k > 0; k-- {
			if parted(atoms[k-1 : k+1]) {
				return from + k
			}
		}
		at = from
	}
	return 0
}

// parted tells whether there is a boundary between two atoms, whatever stands ahead of them. Where it tells of none, there may be one.
func parted(pair []int) bool {
	switch glyph.Class(pair[0]) {
	case glyph.Extend, glyph.Joiner:
		// What stands ahead of these alone may join such as these to them, and nothing else.
		if glyph.Conjunct(pair[1]) == glyph.Consonant || glyph.Class(pair[1]) == glyph.Pictograph {
			return false
		}
	}
	return cluster.IsBreak(pair, 1)
}
