package modal

import "copyist/api"

// change is a command that can be done again.
type change struct {
	api.Cmd
	pattern []int // what was sought for it
	keys    []int // what was typed for it
}

// dot does the last change again.
func (m *Machine) dot(c api.Cmd) api.Errno {
	if m.last.Verb == 0 {
		return api.ErrNothing
	}
	if m.player.deep == api.MaxDeep {
		return api.ErrInner
	}
	if c.Count > 0 {
		m.last.Count = c.Count
	}
	m.player.deep++
	err := m.repeat(m.last)
	m.player.deep--
	return err
}

// repeat does a change again, with what was sought and typed for it.
func (m *Machine) repeat(was change) api.Errno {
	if isSought(was.Move) {
		if err := m.setSearch(was.pattern, was.Move == api.MSearchBack); err != api.OK {
			return err
		}
	}
	if err := m.do(was.Cmd); err != api.OK || !m.isTyping() {
		return err
	}
	err := m.play(was.keys, 1)
	if err == api.OK {
		err = m.retype()
	}
	m.endTyping()
	return err
}
