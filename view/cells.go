package view

import (
	"iter"

	"copyist/api"
	"copyist/cluster"
	"copyist/glyph"
)

const (
	tab    = 9
	widest = 2 // cells that a cluster of several atoms takes at most
)

// Cell tells the column of the window at which the cluster begins that is at an offset of a line.
func Cell(line []int, at int) int {
	cell := 0
	for p := range places(line) {
		if p.end > at {
			break
		}
		cell = p.behind
	}
	return cell
}

// At tells the offset of the cluster of a line that covers a column of the window.
func At(line []int, cell int) int {
	if cell < 0 {
		return 0
	}
	for p := range places(line) {
		if cell < p.behind {
			return p.at
		}
	}
	return len(line)
}

// place is where a cluster stands: its atoms are those from at up to end, and behind is the first cell behind it.
type place struct {
	at, end int
	behind  int
}

// places goes through the clusters of a line. What is behind the last one that is asked for is not read.
func places(line []int) iter.Seq[place] {
	return func(yield func(place) bool) {
		cell := 0
		for at := 0; at < len(line); {
			// Ahead of a boundary nothing has a say in what comes behind it.
			end := at + cluster.Next(line[at:], 0)
			cell += width(line[at:end], cell)
			if !yield(place{at: at, end: end, behind: cell}) {
				return
			}
			at = end
		}
	}
}

// width tells how many cells a cluster takes that stands at a cell.
func width(atoms []int, cell int) int {
	if len(atoms) == 1 {
		if atoms[0] == tab {
			return api.Tab - cell%api.Tab
		}
		return glyph.Width(atoms[0])
	}
	sum := 0
	for _, atom := range atoms {
		sum += glyph.Width(atom)
	}
	return min(sum, widest)
}
