package operate

import (
	"copyist/api"
	"copyist/breaks"
	"copyist/cluster"
	"copyist/glyph"
	"copyist/lines"
)

// Join makes one line of as many; bare: nothing is put between them or taken away.
func (d *Desk) Join(first, last int, bare bool) api.Errno {
	return d.do(func(c *call) {
		switch {
		case first < 0 || last < first || last >= lines.Count(c.text):
			giveUp(api.ErrRange)
		case first == last:
			giveUp(api.ErrNothing)
		}
		edits := c.seams(first, last, bare)
		c.change(c.here(), edits...)
		c.end(c.clamped(lastPlace(edits)))
	})
}

// lastPlace tells where the last of some edits is to be found behind the change.
func lastPlace(edits []api.Edit) int {
	upto := len(edits) - 1
	at := edits[upto].From
	for _, e := range edits[:upto] {
		at += len(e.Put) - (e.To - e.From)
	}
	return at
}

// seams tells an edit for each two lines that follow on each other.
func (c *call) seams(first, last int, bare bool) []api.Edit {
	var edits []api.Edit
	begun := false
	var upper breaks.Row
	clings := false // what is joined so far has atoms, and the last is no blank
	for lower := range c.rows(first, last) {
		rest := lower.Content
		if begun {
			seam := api.Edit{From: upper.To(), To: lower.From}
			if !bare {
				rest = rest[lead(rest):]
				seam.To = lower.To() - len(rest)
				seam.Put = gap(clings, rest)
			}
			edits = append(edits, seam)
		}
		if n := len(rest); n > 0 {
			clings = glyph.Word(rest[n-1]) != glyph.Blank
		}
		upper, begun = lower, true
	}
	return edits
}

// lead tells how many blanks a line begins with. One that something is joined to, such as an accent, is none.
func lead(content []int) int {
	size := 0
	for size < len(content) && glyph.Word(content[size]) == glyph.Blank && cluster.Next(content[size:], 0) == 1 {
		size++
	}
	return size
}

// gap is what keeps two lines apart.
func gap(clings bool, rest []int) []int {
	if clings && len(rest) > 0 && rest[0] != closing {
		return []int{blank}
	}
	return nil
}
