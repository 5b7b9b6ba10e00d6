package motion

import (
	"iter"

	"copyist/cluster"
	"copyist/glyph"
	"copyist/piece"
)

const (
	lineFeed = 10
	carriage = 13
)

// cell is a cluster of the text. A break is one too: the rules of clusters part it from all others, and keep its two atoms together.
type cell struct {
	at, end int
	atom    int // the first one, which decides what the cell is
}

func (c cell) isBreak() bool { return c.atom == lineFeed || c.atom == carriage }

// isSingle tells whether the cell is one atom and nothing else.
func (c cell) isSingle() bool { return c.end == c.at+1 }

// window is how many atoms a scanner reads at first. Each further window is twice as long: so a short way costs little, and of a long one no more than half is read in vain.
const window = 32

// upward goes through the cells from a boundary on, up to the text's end.
func upward(t *piece.Text, at int) iter.Seq[cell] {
	return func(yield func(cell) bool) {
		n := t.Len()
	windows:
		for from, size := at, window; from < n; size *= 2 {
			atoms := t.Atoms(from, from+size)
			for k := 0; k < len(atoms); {
				// Ahead of a boundary nothing has a say in what comes behind it.
				end := k + cluster.Next(atoms[k:], 0)
				if end == len(atoms) && from+end < n {
					// Whether the cell ends here hangs on an atom that is not at hand yet.
					from += k
					continue windows
				}
				if !yield(cell{at: from + k, end: from + end, atom: atoms[k]}) {
					return
				}
				k = end
			}
			return
		}
	}
}

// downward goes through the cells ahead of a boundary, the nearest first, down to the text's beginning.
func downward(t *piece.Text, at int) iter.Seq[cell] {
	return func(yield func(cell) bool) {
		for to, size := at, window; to > 0; size *= 2 {
			from := cut(t, to-size)
			atoms := t.Atoms(from, to)
			bounds := cluster.Breaks(atoms)
			for k := len(bounds) - 2; k >= 0; k-- {
				if !yield(cell{at: from + bounds[k], end: from + bounds[k+1], atom: atoms[bounds[k]]}) {
					return
				}
			}
			to = from
		}
	}
}

// within leaves off at a break.
func within(cells iter.Seq[cell]) iter.Seq[cell] {
	return func(yield func(cell) bool) {
		for c := range cells {
			if c.isBreak() || !yield(c) {
				return
			}
		}
	}
}

// cut tells a boundary up to an offset, as near as one is known without reading the line from its beginning.
func cut(t *piece.Text, at int) int {
	for size := window; at > 0; size *= 2 {
		from := max(at-size, 0)
		atoms := t.Atoms(from, at+1)
		for k := len(atoms) - 1; k > 0; k-- {
			if parted(atoms[k-1 : k+1]) {
				return from + k
			}
		}
		at = from
	}
	return 0
}

// parted tells whether there is a boundary between two atoms, whatever stands ahead of them. Where it tells of none, there may be one.
func parted(pair []int) bool {
	switch glyph.Class(pair[0]) {
	case glyph.Extend, glyph.Joiner:
		return false // what stands ahead of these alone may join what stands behind them
	}
	return cluster.IsBreak(pair, 1)
}

// snap tells the greatest boundary up to the offset of an atom.
func snap(t *piece.Text, at int) int {
	from := cut(t, at)
	for c := range upward(t, from) {
		if c.end > at {
			break
		}
		from = c.end
	}
	return from
}
