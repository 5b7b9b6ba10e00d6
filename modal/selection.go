package modal

import (
	"copyist/api"
	"copyist/lines"
	"copyist/motion"
	"copyist/object"
)

// chosen is what is kept of the last selection beside its marks; the mode 0: there was none.
type chosen struct {
	mode  int
	below bool // the cursor was below the anchor
}

// selected is what a selection takes, and its two ends.
type selected struct {
	api.Span
	low, high int
}

func (m *Machine) isSelecting() bool { return m.mode == api.Visual || m.mode == api.VisualLine }

// visual begins a selection, turns it into one of the other mode, or ends it.
func (m *Machine) visual(c api.Cmd) api.Errno {
	mode := api.Visual
	if c.Verb == api.VVisualLine {
		mode = api.VisualLine
	}
	if m.mode == mode {
		m.endSelection()
		return api.OK
	}
	if !m.isSelecting() {
		m.anchor = m.At
	}
	m.mode = mode
	return api.OK
}

// endSelection keeps where the selection was, for it to be begun again.
func (m *Machine) endSelection() {
	m.Book.SetMark(lowMark, min(m.At, m.anchor))
	m.Book.SetMark(highMark, max(m.At, m.anchor))
	m.chosen = chosen{mode: m.mode, below: m.At < m.anchor}
	m.mode = api.Normal
}

// reselect begins the last selection again.
func (m *Machine) reselect(api.Cmd) api.Errno {
	if m.chosen.mode == api.Normal {
		return api.ErrNothing
	}
	low, err := m.Book.Mark(lowMark)
	if err != api.OK {
		return err
	}
	high, err := m.Book.Mark(highMark)
	if err != api.OK {
		return err
	}
	m.anchor, m.At = m.clamped(low), m.clamped(high)
	if m.chosen.below {
		m.anchor, m.At = m.At, m.anchor
	}
	m.mode = m.chosen.mode
	return api.OK
}

func (m *Machine) swapEnds(api.Cmd) api.Errno {
	m.At, m.anchor = m.anchor, m.At
	return api.OK
}

// moveEnd moves the selection's end, or selects an object.
func (m *Machine) moveEnd(c api.Cmd) api.Errno {
	if c.Move < api.OWord {
		return m.move(c)
	}
	s, err := object.Take(m.text(), m.At, api.Move{Kind: c.Move, Count: c.Count, Arg: c.Arg})
	switch {
	case err != api.OK:
		return err
	case s.From == s.To:
		return api.ErrObject
	}
	end := s.To - 1
	if s.Kind == api.ByLines {
		end = m.lineAt(lines.Of(m.text(), end)).From
		m.mode = api.VisualLine
	}
	m.anchor, m.At = m.clamped(s.From), m.clamped(end)
	m.aimHere()
	return api.OK
}

// selected tells what is selected.
func (m *Machine) selected() selected {
	kind := api.Inclusive
	if m.mode == api.VisualLine {
		kind = api.Linewise
	}
	span, _ := motion.Between(m.text(), m.anchor, m.At, kind)
	return selected{Span: span, low: min(m.At, m.anchor), high: max(m.At, m.anchor)}
}

// ending makes a command of one that works on what was selected: the selection ends first, whatever comes of the command.
func (m *Machine) ending(do func(s selected, c api.Cmd) api.Errno) func(c api.Cmd) api.Errno {
	return func(c api.Cmd) api.Errno {
		s := m.selected()
		m.endSelection()
		m.At = s.low
		return do(s, c)
	}
}

func (m *Machine) operateSelected(s selected, c api.Cmd) api.Errno {
	return m.operateOn(s.Span, c, times(c))
}

// joinSelected joins the lines of the selection; of one line: with the next one.
func (m *Machine) joinSelected(s selected, c api.Cmd) api.Errno {
	first, last := lines.Of(m.text(), s.low), lines.Of(m.text(), s.high)
	return m.joinLines(first, max(last, first+1), c)
}
