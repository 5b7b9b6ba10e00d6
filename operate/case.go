package operate

import (
	"copyist/api"
	"copyist/codec"
	"copyist/glyph"
)

// Case gives a span great letters (VUpper), small ones (VLower), or each letter the other one (VFlip).
func (d *Desk) Case(how int, s api.Span) api.Errno {
	return d.do(func(c *call) {
		turn := turner(how)
		c.checkSpan(s)
		checkAny(s)
		if s.Kind == api.ByLines {
			top, bottom := c.outerLines(s)
			s.From, s.To = top.From, bottom.Next
		}
		c.change(c.here(), c.turned(s, turn)...)
		c.end(c.clamped(s.From))
	})
}

// turner tells what gives a letter its new form.
func turner(how int) func(int) int {
	switch how {
	case api.VUpper:
		return glyph.Upper
	case api.VLower:
		return glyph.Lower
	case api.VFlip:
		return glyph.Turn
	}
	giveUp(api.ErrArg)
	return nil
}

// turned tells an edit for each atom that has another form, if the text can hold it.
func (c *call) turned(s api.Span, turn func(int) int) []api.Edit {
	var edits []api.Edit
	for i, atom := range c.text.Atoms(s.From, s.To) {
		if other := turn(atom); other != atom && codec.Fits(c.text.Enc(), other) {
			edits = append(edits, api.Edit{From: s.From + i, To: s.From + i + 1, Put: []int{other}})
		}
	}
	return edits
}
