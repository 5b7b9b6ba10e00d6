package operate

import (
	"copyist/api"
	"copyist/motion"
	"copyist/piece"
)

// call is one call of a desk while it is under way. It may give up wherever it is: what it has begun is dropped then.
type call struct {
	*Desk
	text   *piece.Text
	opened bool // the group that is open is its own
}

func giveUp(err api.Errno) { panic(err) }

// must gives up, if what was asked for is refused.
func must(err api.Errno) {
	if err != api.OK {
		giveUp(err)
	}
}

// do does all of a call's work, or none of it.
func (d *Desk) do(work func(*call)) (err api.Errno) {
	c := &call{Desk: d, text: d.Book.Text()}
	defer func() {
		reason := recover()
		if reason == nil {
			return
		}
		if c.opened {
			d.Book.Drop()
		}
		refusal, ok := reason.(api.Errno)
		if !ok {
			panic(reason) // nothing that a call gives up with: a fault of the program
		}
		err = refusal
	}()
	work(c)
	return api.OK
}

// here is where the cursor stands, whatever At was set to.
func (c *call) here() int { return c.clamped(c.At) }

func (c *call) clamped(at int) int { return motion.Clamp(c.text, at, false) }

// firstSign tells the first sign of the line that an offset is in.
func (c *call) firstSign(at int) int {
	land, err := motion.Rows(c.text, at, 0, api.Move{Kind: api.MHere})
	must(err)
	return land.At
}

// change does all edits at once, in the group that is open, or else in one of its own that begins with the cursor at an offset.
func (c *call) change(cursor int, edits ...api.Edit) {
	if len(edits) == 0 {
		return
	}
	if !c.Book.IsOpen() {
		must(c.Book.Begin(cursor))
		c.opened = true
	}
	must(c.Book.Change(edits))
}

// end leaves the cursor at an offset, and shuts the call's own group. It is the last thing that a call does.
func (c *call) end(cursor int) {
	if c.opened {
		must(c.Book.End(cursor))
	}
	c.At = cursor
}
