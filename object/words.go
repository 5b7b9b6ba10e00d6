package object

import (
	"iter"

	"copyist/api"
	"copyist/cells"
	"copyist/glyph"
	"copyist/piece"
)

// Words is iw, aw, iW, aW.
func Words(t *piece.Text, at int, m api.Move) (api.Span, api.Errno) {
	if err := refused(t, at, m, api.OWord, api.OAWord, api.OBigWord, api.OABigWord); err != api.OK {
		return api.Span{}, err
	}
	line := lineOf(t, at)
	if line.From == line.To {
		return none()
	}
	r := clusterRow(t, cellOf(t, line, at), kindFor(m))
	switch m.Kind {
	case api.OWord, api.OBigWord:
		return r.inner(times(m))
	}
	return r.outer(times(m))
}

// kindFor tells how an object takes the kind of an atom: for big words signs are letters.
func kindFor(m api.Move) func(atom int) int {
	switch m.Kind {
	case api.OBigWord, api.OABigWord:
		return func(atom int) int {
			if glyph.Word(atom) == glyph.Blank {
				return glyph.Blank
			}
			return glyph.Letter
		}
	}
	return glyph.Word
}

// clusterRow is the row of the clusters of a cell's line.
func clusterRow(t *piece.Text, here cells.Cell, kind func(atom int) int) row {
	return row{
		here: clusterPart(here, kind),
		up:   func(from int) iter.Seq[part] { return clusterParts(cells.Up(t, from), kind) },
		down: func(to int) iter.Seq[part] { return clusterParts(cells.Down(t, to), kind) },
		span: byChars,
	}
}

func clusterPart(c cells.Cell, kind func(atom int) int) part {
	return part{from: c.At, to: c.End, kind: kind(c.Atom)}
}

// clusterParts goes through cells up to the first break.
func clusterParts(all iter.Seq[cells.Cell], kind func(atom int) int) iter.Seq[part] {
	return func(yield func(part) bool) {
		for c := range cells.Within(all) {
			if !yield(clusterPart(c, kind)) {
				return
			}
		}
	}
}
