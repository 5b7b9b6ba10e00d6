package modal

import (
	"slices"

	"copyist/api"
)

// typing is text while it is typed.
type typing struct {
	change
	kept  bool // it is the last change, when it has ended
	again bool // its keys are played once more: they are not its keys a second time
}

// isTyping tells whether text is typed.
func (m *Machine) isTyping() bool { return m.mode == api.Insert || m.mode == api.Replace }

// beginTyping begins a group and goes to where text is typed.
func (m *Machine) beginTyping(c api.Cmd) api.Errno {
	if err := m.Book.Begin(m.At); err != api.OK {
		return err
	}
	if err := m.goToType(c.Verb); err != api.OK {
		m.Book.Drop()
		return err
	}
	m.typeFor(c)
	return api.OK
}

// change begins a group in which a span is taken away, for other text to be typed there.
func (m *Machine) change(s api.Span, c api.Cmd) api.Errno {
	if err := m.Book.Begin(m.At); err != api.OK {
		return err
	}
	if err := m.Change(c.Reg, s); err != api.OK {
		m.Book.Drop()
		return err
	}
	m.typeFor(c)
	return api.OK
}

// typeFor lets keys be typed for a command.
func (m *Machine) typeFor(c api.Cmd) {
	m.typing = typing{change: change{Cmd: c}}
	m.mode = api.Insert
	if c.Verb == api.VReplace {
		m.mode = api.Replace
	}
}

// goToType puts the cursor where a command lets text be typed.
func (m *Machine) goToType(verb int) api.Errno {
	switch verb {
	case api.VAppend:
		m.At = m.behind(1)
	case api.VInsertFirst:
		m.At = m.firstPlace()
	case api.VAppendEnd:
		m.At = m.here().To
	case api.VOpen, api.VOpenUp:
		return m.openLine(verb == api.VOpenUp)
	}
	return api.OK
}

// firstPlace is behind the blanks that the line begins with.
func (m *Machine) firstPlace() int {
	line := m.here()
	if slices.ContainsFunc(m.text().Atoms(line.From, line.To), isSeen) {
		return m.firstSign(line.From)
	}
	return line.To
}

// openLine puts a new line below the cursor's or above it, and goes there; refused, the cursor stays.
func (m *Machine) openLine(up bool) api.Errno {
	was, line := m.At, m.here()
	place := line.Next
	if up {
		place = line.From
	}
	m.At = place
	if err := m.Type([]int{lineFeed}); err != api.OK {
		m.At = was
		return err
	}
	if up || line.Break != api.NoBreak {
		m.At = place // else the new line is what stands behind the line end
	}
	return api.OK
}

// escape ends typing, when what was typed has come as often as the count says.
func (m *Machine) escape() api.Errno {
	err := m.retype()
	m.endTyping()
	return err
}

// retype plays the keys of the typing once more for each further time that the count asks for. A change's count is its motion's.
func (m *Machine) retype() api.Errno {
	t := &m.typing
	if t.Verb == api.VChange {
		return api.OK
	}
	t.again = true
	for range t.Count - 1 {
		if t.Verb == api.VOpen || t.Verb == api.VOpenUp {
			if err := m.openLine(t.Verb == api.VOpenUp); err != api.OK {
				return err
			}
		}
		if err := m.play(t.keys, 1); err != api.OK {
			return err
		}
	}
	return api.OK
}

// endTyping shuts the group, goes back to the mode Normal and keeps what was typed.
func (m *Machine) endTyping() {
	m.At = m.clamped(m.boundaryAhead(m.here()))
	m.Book.End(m.At)
	m.mode, m.literal = api.Normal, false
	m.aimHere()
	if m.typing.kept {
		m.last = m.typing.change
	}
	if text := typedText(m.typing.keys); len(text) > 0 {
		m.Bank.Set(ofTyping, text)
	}
	m.typing = typing{}
}

// typedText is what the keys of a typing say without those that take away, or that say something of the next key.
func typedText(keys []int) []int {
	var text []int
	for _, key := range keys {
		switch key {
		case api.KeyBack, api.KeyDelete, api.KeyCtrlU, api.KeyCtrlV, api.KeyCtrlW:
		case api.KeyReturn:
			text = append(text, lineFeed)
		default:
			text = append(text, key)
		}
	}
	return text
}
