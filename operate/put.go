package operate

import (
	"slices"

	"copyist/api"
	"copyist/breaks"
	"copyist/cells"
	"copyist/lines"
)

// Put puts a register's text behind or ahead of the cursor, as often as the count says.
func (d *Desk) Put(reg int, up bool, count int) api.Errno {
	return d.do(func(c *call) {
		if count < 1 {
			giveUp(api.ErrArg)
		}
		r, err := c.Bank.Get(reg)
		must(err)
		text := repeated(r.Text, min(count, api.MaxCount))
		if r.Kind == api.ByLines {
			c.putLines(text, up)
		} else {
			c.putChars(text, up)
		}
	})
}

// repeated is a text so many times, but no more of it than is needed to be longer than any text may be: the book refuses that as it would refuse all of it.
func repeated(text []int, count int) []int {
	enough := api.MaxBytes/max(len(text), 1) + 2 // one of them may lose its last break
	return slices.Repeat(text, min(count, enough))
}

func (c *call) putChars(text []int, up bool) {
	here := c.here()
	at := here
	if !up {
		at = c.behind(here)
	}
	c.change(here, api.Edit{From: at, To: at, Put: text})
	if !slices.ContainsFunc(text, breaks.Is) {
		at += len(text) - 1
	}
	c.end(c.clamped(at))
}

// behind tells where the cluster ends that begins at an offset; that offset itself at the end of a line.
func (c *call) behind(at int) int {
	for cell := range cells.Within(cells.Up(c.text, at)) {
		return cell.End
	}
	return at
}

func (c *call) putLines(text []int, up bool) {
	here := c.here()
	line := c.line(lines.Of(c.text, here))
	at := line.Next
	var end []int
	switch {
	case up:
		at = line.From
	case line.Break == api.NoBreak:
		text = breaks.Without(text)
		end = c.lineEnd(c.text.Atoms(at-1, at), text)
	}
	c.change(here, api.Edit{From: at, To: at, Put: slices.Concat(end, text)})
	c.end(c.firstSign(at + len(end)))
}
