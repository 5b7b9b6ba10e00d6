package object

import (
	"copyist/api"
	"copyist/cells"
	"copyist/glyph"
	"copyist/piece"
)

const backslash = 92

// Quotes is what stands between two quotes of a line, without or with them.
func Quotes(t *piece.Text, at int, m api.Move) (api.Span, api.Errno) {
	if !isQuote(m.Arg) {
		return api.Span{}, api.ErrArg
	}
	if err := refused(t, at, m, api.OQuote, api.OAQuote); err != api.OK {
		return api.Span{}, err
	}
	line := lineOf(t, at)
	if line.From == line.To {
		return none()
	}
	here := cellOf(t, line, at)
	first, second, ok := markPair(t, line.From, here.At, marker(m.Arg))
	switch {
	case !ok:
		return none()
	case m.Kind == api.OAQuote:
		return clusterRow(t, here, glyph.Word).withBlanks(first.At, second.End)
	case times(m) > 1:
		return byChars(first.At, second.End)
	}
	return byChars(first.End, second.At)
}

func isQuote(arg int) bool { return arg == '"' || arg == '\'' || arg == '`' }

// marker tells of the cells of a line, which it is shown one by one from its beginning, whether they are marks.
func marker(quote int) func(cells.Cell) bool {
	slashes := 0
	return func(c cells.Cell) bool {
		if c.Is(backslash) {
			slashes++
			return false
		}
		even := slashes%2 == 0
		slashes = 0
		return even && c.Is(quote)
	}
}

// markPair tells the first pair of marks, of a line that begins at an offset, whose second one is not ahead of a cell.
func markPair(t *piece.Text, from, cell int, isMark func(cells.Cell) bool) (first, second cells.Cell, ok bool) {
	open := false
	for c := range cells.Within(cells.Up(t, from)) {
		if !isMark(c) {
			continue
		}
		if open && c.At >= cell {
			return first, c, true
		}
		first, open = c, !open
	}
	return cells.Cell{}, cells.Cell{}, false
}
