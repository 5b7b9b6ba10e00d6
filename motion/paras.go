package motion

import (
	"iter"

	"copyist/api"
	"copyist/cells"
	"copyist/glyph"
	"copyist/piece"
)

// Paras is the two motions by paragraphs, and % without a count.
func Paras(t *piece.Text, at int, m api.Move) (api.Land, api.Errno) {
	w := paraWays()
	if !w.has(m.Kind) {
		return api.Land{}, api.ErrArg
	}
	return w[m.Kind](newStand(t, at, m, false))
}

func paraWays() ways {
	return ways{
		api.MParaNext: stand.paraNext,
		api.MParaPrev: stand.paraPrev,
		api.MMatch:    stand.match,
	}
}

func (s stand) paraNext() (api.Land, api.Errno) {
	if to, ok := s.gap(s.rowsUp()); ok {
		return s.exclusive(to)
	}
	to := lastPlace(s.text, lastLine(s.text))
	if to == s.at {
		return nowhere()
	}
	return s.inclusive(to)
}

func (s stand) paraPrev() (api.Land, api.Errno) {
	if s.at == 0 {
		return nowhere()
	}
	to, _ := s.gap(s.rowsDown())
	return s.exclusive(to)
}

// gap tells where the line begins that the count asks for among those that are blank while the one that was told just ahead of them is not; 0, if there are not so many.
func (s stand) gap(rows iter.Seq[row]) (int, bool) {
	left := s.times()
	lastBlank := true // so that the line of the place itself is none of them
	for r := range rows {
		if r.blank && !lastBlank {
			if left--; left == 0 {
				return r.from, true
			}
		}
		lastBlank = r.blank
	}
	return 0, false
}

// row is a line as motions by paragraphs see it.
type row struct {
	from  int
	blank bool
}

// with tells the row when a cell of its content has come to it.
func (r row) with(c cells.Cell) row {
	return row{from: r.from, blank: r.blank && glyph.Word(c.Atom) == glyph.Blank}
}

// rowsUp goes through the rows from the one of the place on to the last one.
func (s stand) rowsUp() iter.Seq[row] {
	return func(yield func(row) bool) {
		r := row{from: s.line.From, blank: true}
		for c := range cells.Up(s.text, s.line.From) {
			if !c.IsBreak() {
				r = r.with(c)
				continue
			}
			if !yield(r) {
				return
			}
			r = row{from: c.End, blank: true}
		}
		if r.from < s.text.Len() { // else it is the tail, which is no line
			yield(r)
		}
	}
}

// rowsDown goes through the rows from the one of the place down to the first one.
func (s stand) rowsDown() iter.Seq[row] {
	return func(yield func(row) bool) {
		r := row{blank: true}
		for c := range cells.Down(s.text, s.line.To) {
			if !c.IsBreak() {
				r = r.with(c)
				continue
			}
			r.from = c.End
			if !yield(r) {
				return
			}
			r = row{blank: true}
		}
		yield(r)
	}
}

func (s stand) match() (api.Land, api.Errno) {
	for c := range cells.Within(cells.Up(s.text, s.at)) {
		switch other, opens := fellow(c); {
		case opens:
			return s.matchOf(c, other, cells.Up(s.text, c.End))
		case other != 0:
			return s.matchOf(c, other, cells.Down(s.text, c.At))
		}
	}
	return nowhere()
}

// matchOf goes from a bracket to the first one at which as many of the other sort as of its own have been met.
func (s stand) matchOf(bracket cells.Cell, other int, way iter.Seq[cells.Cell]) (api.Land, api.Errno) {
	open := 1
	for c := range way {
		if !c.IsSingle() {
			continue
		}
		switch c.Atom {
		case bracket.Atom:
			open++
		case other:
			open--
		}
		if open == 0 {
			return s.inclusive(c.At)
		}
	}
	return nowhere()
}

// fellow tells the other bracket of a bracket's pair, and whether this one opens; 0 of a cell that is no bracket.
func fellow(c cells.Cell) (other int, opens bool) {
	if !c.IsSingle() {
		return 0, false
	}
	switch c.Atom {
	case '(':
		return ')', true
	case '[':
		return ']', true
	case '{':
		return '}', true
	case ')':
		return '(', false
	case ']':
		return '[', false
	case '}':
		return '{', false
	}
	return 0, false
}
