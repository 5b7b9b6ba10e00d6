package object

import (
	"iter"

	"copyist/api"
	"copyist/cells"
	"copyist/glyph"
	"copyist/piece"
)

// Blocks is what stands between two brackets, without or with them.
func Blocks(t *piece.Text, at int, m api.Move) (api.Span, api.Errno) {
	fellow, ok := fellows()[m.Arg]
	if !ok {
		return api.Span{}, api.ErrArg
	}
	if err := refused(t, at, m, api.OBlock, api.OABlock); err != api.OK {
		return api.Span{}, err
	}
	opening := func(c cells.Cell) bool { return c.Is(m.Arg) }
	closing := func(c cells.Cell) bool { return c.Is(fellow) }
	place := seam(t, at, opening)
	first, ok := kthOpen(cells.Down(t, place), times(m), opening, closing)
	if !ok {
		return none()
	}
	last, ok := kthOpen(cells.Up(t, place), times(m), closing, opening)
	switch {
	case !ok:
		return none()
	case m.Kind == api.OABlock:
		return byChars(first.At, last.End)
	}
	return between(t, first, last)
}

// fellows leads from an opening bracket to the one that closes.
func fellows() map[int]int {
	return map[int]int{'(': ')', '[': ']', '{': '}', '<': '>'}
}

// seam tells the place of an offset, from which its blocks' brackets are sought to both sides: an opening bracket is ahead of its own place, a closing one behind it.
func seam(t *piece.Text, at int, opening func(cells.Cell) bool) int {
	c := cells.Of(t, at)
	if opening(c) {
		return c.End
	}
	return c.At
}

// kthOpen tells the k-th bracket of one sort, on a way out from the middle, that none of the other sort has been met for. A bracket without a fellow hides those further out: no block can go around it.
func kthOpen(way iter.Seq[cells.Cell], k int, sought, other func(cells.Cell) bool) (cells.Cell, bool) {
	inner := 0
	for c := range way {
		switch {
		case other(c):
			inner++
		case !sought(c):
		case inner > 0:
			inner--
		default:
			if k--; k == 0 {
				return c, true
			}
		}
	}
	return cells.Cell{}, false
}

// between takes what stands between two brackets; by lines, if they stand at the end of a line and at the beginning of another.
func between(t *piece.Text, first, last cells.Cell) (api.Span, api.Errno) {
	head, foot := lineOf(t, first.At), lineOf(t, last.At)
	switch {
	case first.End < head.To, !isIndent(t, foot.From, last):
		return byChars(first.End, last.At)
	case head.Next == foot.From:
		return byChars(first.End, first.End)
	}
	return byLines(head.Next, foot.From)
}

// isIndent tells whether nothing but blanks stands from a line's beginning to a cell of it.
func isIndent(t *piece.Text, from int, c cells.Cell) bool {
	r := clusterRow(t, c, glyph.Word)
	return reachDown(r.down(c.At), c.At, isBlank) == from
}
