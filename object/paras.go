package object

import (
	"iter"

	"copyist/api"
	"copyist/cells"
	"copyist/glyph"
	"copyist/piece"
)

// Paras is ip, ap.
func Paras(t *piece.Text, at int, m api.Move) (api.Span, api.Errno) {
	if err := refused(t, at, m, api.OPara, api.OAPara); err != api.OK {
		return api.Span{}, err
	}
	line := lineOf(t, at)
	if n := t.Len(); n > 0 && line.From == n {
		return none() // the tail
	}
	r := lineRow(t, line)
	if m.Kind == api.OPara {
		return r.inner(times(m))
	}
	return r.outer(times(m))
}

// lineRow is the row of all lines.
func lineRow(t *piece.Text, here api.Line) row {
	return row{
		here: linePart(t, here),
		up:   func(from int) iter.Seq[part] { return linesUp(t, from) },
		down: func(to int) iter.Seq[part] { return linesDown(t, to) },
		span: byLines,
	}
}

// linePart tells a line's kind: blank, if it is bare.
func linePart(t *piece.Text, line api.Line) part {
	p := bare(line.From, line.Next)
	for c := range cells.Within(cells.Up(t, line.From)) {
		if p = p.with(c); isFull(p) {
			break
		}
	}
	return p
}

// bare is a line of which no cell has been met yet.
func bare(from, to int) part { return part{from: from, to: to, kind: glyph.Blank} }

// with tells the line when a cell of its content has been met.
func (p part) with(c cells.Cell) part {
	if glyph.Word(c.Atom) != glyph.Blank {
		p.kind = glyph.Letter
	}
	return p
}

// linesUp goes through the lines from one's beginning on to the last one.
func linesUp(t *piece.Text, from int) iter.Seq[part] {
	return func(yield func(part) bool) {
		p := bare(from, from)
		for c := range cells.Up(t, from) {
			p.to = c.End
			if !c.IsBreak() {
				p = p.with(c)
				continue
			}
			if !yield(p) {
				return
			}
			p = bare(c.End, c.End)
		}
		if p.from < p.to { // else it is the tail, which is no line
			yield(p)
		}
	}
}

// linesDown goes through the lines ahead of one's beginning, down to the first one.
func linesDown(t *piece.Text, to int) iter.Seq[part] {
	return func(yield func(part) bool) {
		p := bare(0, to)
		for c := range cells.Down(t, to) {
			switch {
			case !c.IsBreak():
				p = p.with(c)
			case c.End < p.to: // the break of the line ahead of this one
				p.from = c.End
				if !yield(p) {
					return
				}
				p = bare(0, c.End)
			}
		}
		if p.from < p.to {
			yield(p)
		}
	}
}
