package operate

import (
	"copyist/api"
	"copyist/cells"
	"copyist/codec"
	"copyist/lines"
)

// Type puts typed text (10: a line end) at the cursor, which then stands behind it.
func (d *Desk) Type(typed []int) api.Errno {
	return d.do(func(c *call) {
		at := min(max(c.At, 0), c.text.Len())
		put, err := lines.Typed(c.text, at, typed, c.native())
		must(err)
		if len(put) > 0 {
			c.change(at, api.Edit{From: at, To: at, Put: put})
		}
		c.end(at + len(put))
	})
}

// Over writes an atom over so many clusters.
func (d *Desk) Over(count, atom int) api.Errno {
	return d.do(func(c *call) {
		switch {
		case count < 1:
			giveUp(api.ErrArg)
		case !codec.Fits(c.text.Enc(), atom):
			giveUp(api.ErrFit)
		}
		here := c.here()
		edits := c.overwritten(here, min(count, api.MaxCount), atom)
		if atom == lineFeed {
			c.overByEnd(here, edits[len(edits)-1].To)
			return
		}
		c.change(here, edits...)
		c.end(c.clamped(here + len(edits) - 1))
	})
}

// overwritten tells an edit for each of so many clusters of a line.
func (c *call) overwritten(from, count, atom int) []api.Edit {
	var edits []api.Edit
	for cell := range cells.Within(cells.Up(c.text, from)) {
		edits = append(edits, api.Edit{From: cell.At, To: cell.End, Put: []int{atom}})
		if len(edits) == count {
			return edits
		}
	}
	giveUp(api.ErrNothing)
	return nil
}

// overByEnd writes one line end over all from an offset up to another.
func (c *call) overByEnd(from, to int) {
	end := c.lineEnd(c.text.Atoms(from-1, from), c.text.Atoms(to, to+1))
	c.change(from, api.Edit{From: from, To: to, Put: end})
	c.end(c.clamped(from + len(end)))
}
