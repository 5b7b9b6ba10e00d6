package operate

import (
	"iter"
	"slices"

	"copyist/api"
	"copyist/breaks"
	"copyist/lines"
)

// checkSpan gives up, if a span is none of the text.
func (c *call) checkSpan(s api.Span) {
	switch {
	case s.Kind != api.ByChars && s.Kind != api.ByLines:
		giveUp(api.ErrArg)
	case s.From < 0 || s.To < s.From || s.To > c.text.Len():
		giveUp(api.ErrRange)
	}
}

// checkAny gives up, if a span is by characters and has none.
func checkAny(s api.Span) {
	if s.Kind == api.ByChars && s.From == s.To {
		giveUp(api.ErrNothing)
	}
}

// linesOf tells the numbers of the first and the last line of a span.
func (c *call) linesOf(s api.Span) (first, last int) {
	end := lines.Count(c.text) - 1 // the tail counts as the last line
	return min(lines.Of(c.text, s.From), end), min(lines.Of(c.text, max(s.From, s.To-1)), end)
}

// line tells a line whose number is known to be good.
func (c *call) line(number int) api.Line {
	line, err := lines.At(c.text, number)
	must(err)
	return line
}

// outerLines tells the first and the last line of a span.
func (c *call) outerLines(s api.Span) (top, bottom api.Line) {
	first, last := c.linesOf(s)
	return c.line(first), c.line(last)
}

// taken is what a register gets of a span.
func (c *call) taken(s api.Span) api.Reg {
	if s.Kind == api.ByChars {
		return api.Reg{Kind: api.ByChars, Text: c.text.Atoms(s.From, s.To)}
	}
	top, bottom := c.outerLines(s)
	text := c.text.Atoms(top.From, bottom.Next)
	if bottom.Break == api.NoBreak {
		text = slices.Concat(text, c.nativeBreak())
	}
	return api.Reg{Kind: api.ByLines, Text: text}
}

// rows goes through lines by their numbers.
func (c *call) rows(first, last int) iter.Seq[breaks.Row] {
	return breaks.Rows(c.text, c.line(first).From, c.line(last).Next)
}
