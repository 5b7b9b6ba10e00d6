package modal

import (
	"copyist/api"
	"copyist/breaks"
	"copyist/cells"
	"copyist/lines"
	"copyist/motion"
	"copyist/operate"
	"copyist/piece"
)

// bench is a desk, with what many commands ask of its text around the cursor.
type bench struct{ *operate.Desk }

func (b bench) text() *piece.Text { return b.Book.Text() }

func (b bench) clamped(at int) int { return motion.Clamp(b.text(), at, false) }

// number is that of the cursor's line; the tail has one too.
func (b bench) number() int { return lines.Of(b.text(), b.At) }

// lastLine is the number of the last line.
func (b bench) lastLine() int { return lines.Count(b.text()) - 1 }

// lineAt tells a line whose number is known to be good.
func (b bench) lineAt(number int) api.Line {
	line, _ := lines.At(b.text(), number)
	return line
}

// here is the cursor's line, or the tail.
func (b bench) here() api.Line { return b.lineAt(b.number()) }

// firstSign tells the first sign of the line that an offset is in.
func (b bench) firstSign(at int) int {
	land, _ := motion.Rows(b.text(), at, 0, api.Move{Kind: api.MHere})
	return land.At
}

// behind tells where the last of so many clusters from the cursor on ends, or of those that its line has.
func (b bench) behind(count int) int {
	to := b.At
	for c := range cells.Within(cells.Up(b.text(), b.At)) {
		to = c.End
		if count--; count == 0 {
			break
		}
	}
	return to
}

// boundaryAhead tells the greatest boundary of the line's content below the cursor; at the line's beginning the cursor itself.
func (b bench) boundaryAhead(line api.Line) int {
	if b.At <= line.From {
		return b.At
	}
	return cells.Of(b.text(), b.At-1).At // inside of a CRLF: where that begins
}

func (b bench) nativeBreak() []int { return breaks.Of(breaks.Native(b.Set.Native)) }

// within does some work as one group. It leaves the cursor where the group ends, or, refused, where it was.
func (b bench) within(work func() api.Errno) api.Errno {
	if err := b.Book.Begin(b.At); err != api.OK {
		return err
	}
	if err := work(); err != api.OK {
		b.Book.Drop()
		return err
	}
	return b.Book.End(b.At)
}

// put does edits as one group; the cursor goes to where an offset leads then.
func (b bench) put(edits []api.Edit, cursor func() int) api.Errno {
	return b.within(func() api.Errno {
		err := b.Book.Change(edits)
		if err == api.OK {
			b.At = cursor()
		}
		return err
	})
}
