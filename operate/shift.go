package operate

import (
	"slices"

	"copyist/api"
)

// Shift moves the lines of a span to the right, or (steps below 0) to the left.
func (d *Desk) Shift(s api.Span, steps int) api.Errno {
	return d.do(func(c *call) {
		if steps == 0 {
			giveUp(api.ErrArg)
		}
		c.checkSpan(s)
		first, last := c.linesOf(s)
		top := c.line(first).From
		if steps > 0 {
			c.change(c.here(), c.toRight(first, last, min(steps, api.MaxCount))...)
		} else {
			c.change(c.here(), c.toLeft(first, last, -max(steps, -api.MaxCount))...)
		}
		c.end(c.firstSign(top))
	})
}

// toRight leaves off as soon as the tabs alone are more than any text may have: the book refuses these as it would refuse all of them.
func (c *call) toRight(first, last, steps int) []api.Edit {
	tabs := slices.Repeat([]int{tab}, steps)
	var edits []api.Edit
	for r := range c.rows(first, last) {
		if len(r.Content) == 0 {
			continue
		}
		edits = append(edits, api.Edit{From: r.From, To: r.From, Put: tabs})
		if len(edits)*steps > api.MaxBytes {
			break
		}
	}
	return edits
}

func (c *call) toLeft(first, last, steps int) []api.Edit {
	var edits []api.Edit
	for r := range c.rows(first, last) {
		if size := indent(r.Content, steps); size > 0 {
			edits = append(edits, api.Edit{From: r.From, To: r.From + size})
		}
	}
	return edits
}

// indent tells how many atoms so many steps to the left take.
func indent(content []int, steps int) int {
	size := 0
	for range steps {
		step := stepLeft(content[size:])
		if step == 0 {
			break
		}
		size += step
	}
	return size
}

// stepLeft tells how many atoms one step to the left takes.
func stepLeft(content []int) int {
	if beginsWith(content, tab) {
		return 1
	}
	size := 0
	for size < api.Shift && beginsWith(content[size:], blank) {
		size++
	}
	return size
}
