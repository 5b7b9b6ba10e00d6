package modal

import (
	"slices"

	"copyist/api"
	"copyist/motion"
	"copyist/object"
)

// operate does an operator on what its motion tells.
func (m *Machine) operate(c api.Cmd) api.Errno {
	span, err := m.span(c)
	if err != api.OK {
		return err
	}
	return m.operateOn(span, c, 1)
}

// operateOn does an operator on a span; steps: how far lines are shifted.
func (m *Machine) operateOn(s api.Span, c api.Cmd, steps int) api.Errno {
	switch c.Verb {
	case api.VDelete:
		return m.Delete(c.Reg, s)
	case api.VYank:
		return m.Yank(c.Reg, s)
	case api.VRight:
		return m.Shift(s, steps)
	case api.VLeft:
		return m.Shift(s, -steps)
	case api.VChange:
		return m.change(s, c)
	}
	return m.Case(c.Verb, s)
}

// span is what an operator works on.
func (m *Machine) span(c api.Cmd) (api.Span, api.Errno) {
	switch {
	case c.Move == api.MLines:
		return m.linesFrom(m.number(), times(c)), api.OK
	case c.Move > api.MLines:
		return object.Take(m.text(), m.At, api.Move{Kind: c.Move, Count: c.Count, Arg: c.Arg})
	case isFar(c.Move):
		land, err := m.far(c)
		if err != api.OK {
			return api.Span{}, err
		}
		return motion.Between(m.text(), m.At, land.At, land.Kind)
	}
	return m.reach(c)
}

// linesFrom is so many lines, or those that there are.
func (m *Machine) linesFrom(first, count int) api.Span {
	last := min(first+count-1, m.lastLine())
	return api.Span{From: m.lineAt(first).From, To: m.lineAt(last).Next, Kind: api.ByLines}
}

// reach is the span of a motion that hangs on the text alone.
func (m *Machine) reach(c api.Cmd) (api.Span, api.Errno) {
	move, err := m.motion(c)
	if err != api.OK {
		return api.Span{}, err
	}
	if c.Verb == api.VChange && m.isInWord() {
		move.Kind = rest(move.Kind)
	}
	span, err := motion.Reach(m.text(), m.At, move)
	if err == api.OK {
		m.keepFind(c)
	}
	return span, err
}

// isInWord tells whether the cursor stands on something that is no blank.
func (m *Machine) isInWord() bool {
	line := m.here()
	return line.From < line.To && slices.ContainsFunc(m.text().Atoms(m.At, m.At+1), isSeen)
}

// rest is the motion in whose place a word is changed: the blanks behind it stay.
func rest(move int) int {
	switch move {
	case api.MWord:
		return api.MRest
	case api.MBigWord:
		return api.MBigRest
	}
	return move
}
