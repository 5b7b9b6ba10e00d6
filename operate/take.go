package operate

import (
	"copyist/api"
	"copyist/lines"
	"copyist/motion"
)

// Yank keeps a copy of a span.
func (d *Desk) Yank(reg int, s api.Span) api.Errno {
	return d.do(func(c *call) {
		c.checkSpan(s)
		checkAny(s)
		must(c.Bank.Yank(reg, c.taken(s)))
		if s.Kind == api.ByChars {
			c.end(c.clamped(s.From))
			return
		}
		first, _ := c.linesOf(s)
		c.end(motion.Place(c.text, first, motion.Column(c.text, c.here()), false))
	})
}

// Delete takes a span away.
func (d *Desk) Delete(reg int, s api.Span) api.Errno {
	return d.do(func(c *call) {
		c.checkSpan(s)
		checkAny(s)
		if c.text.Len() == 0 {
			giveUp(api.ErrNothing)
		}
		// Taking away is never refused: so the registers need not be given back.
		must(c.Bank.Delete(reg, c.taken(s)))
		if s.Kind == api.ByChars {
			c.change(c.here(), api.Edit{From: s.From, To: s.To})
			c.end(c.clamped(s.From))
			return
		}
		first, last := c.linesOf(s)
		whole, err := lines.Whole(c.text, first, last)
		must(err)
		c.change(c.here(), api.Edit{From: whole.From, To: whole.To})
		c.end(c.firstSign(whole.From))
	})
}

// Change takes a span away, for other text to be typed there.
func (d *Desk) Change(reg int, s api.Span) api.Errno {
	return d.do(func(c *call) {
		c.checkSpan(s)
		gone := s
		if s.Kind == api.ByLines {
			top, bottom := c.outerLines(s)
			gone.From, gone.To = top.From, bottom.To
		}
		if s.Kind == api.ByLines || s.From < s.To {
			must(c.Bank.Delete(reg, c.taken(s)))
		}
		if gone.From < gone.To {
			c.change(c.here(), api.Edit{From: gone.From, To: gone.To})
		}
		c.end(gone.From)
	})
}
