package modal

import "copyist/api"

// over writes an atom over clusters.
func (m *Machine) over(c api.Cmd) api.Errno {
	if !isOver(c.Arg) {
		return api.ErrKey
	}
	if c.Arg == api.KeyReturn {
		return m.Over(times(c), lineFeed)
	}
	return m.Over(times(c), c.Arg)
}

// isOver tells whether a key may be written over something.
func isOver(key int) bool { return isTyped(key) || key == api.KeyReturn }

// putRegister puts a register's text.
func (m *Machine) putRegister(c api.Cmd) api.Errno {
	return m.Put(c.Reg, c.Verb == api.VPutUp, times(c))
}

// join makes one line of those from the cursor's on, two at least.
func (m *Machine) join(c api.Cmd) api.Errno {
	first := m.number()
	return m.joinLines(first, first+max(times(c), 2)-1, c)
}

// joinLines joins the lines that there are.
func (m *Machine) joinLines(first, last int, c api.Cmd) api.Errno {
	return m.Join(first, min(last, m.lastLine()), c.Verb == api.VJoinBare)
}

// flipChars gives letters their other case, and goes behind them.
func (m *Machine) flipChars(c api.Cmd) api.Errno {
	span := api.Span{From: m.At, To: m.behind(times(c)), Kind: api.ByChars}
	return m.within(func() api.Errno {
		err := m.Case(api.VFlip, span)
		if err == api.OK {
			m.At = m.clamped(span.To) // an atom gives way to one atom
		}
		return err
	})
}

func (m *Machine) undo(c api.Cmd) api.Errno { return m.travel(m.Book.Undo, times(c)) }

func (m *Machine) redo(c api.Cmd) api.Errno { return m.travel(m.Book.Redo, times(c)) }

// travel goes through the past as often as it can; what it can't is an error only if it can't do it once.
func (m *Machine) travel(step func() (int, api.Errno), count int) api.Errno {
	at, err := step()
	if err != api.OK {
		return err
	}
	for range count - 1 {
		next, err := step()
		if err != api.OK {
			break
		}
		at = next
	}
	m.At = m.clamped(at)
	return api.OK
}

func (m *Machine) setMark(c api.Cmd) api.Errno { return m.Book.SetMark(markName(c.Arg), m.At) }

// leave asks for the end of the session.
func (m *Machine) leave(c api.Cmd) api.Errno {
	if m.isPlaying() {
		return api.ErrNested
	}
	m.asked = api.Wish{Verb: api.XExit}
	if c.Verb == api.VQuit {
		m.asked = api.Wish{Verb: api.XQuit, Force: true}
	}
	return api.OK
}
