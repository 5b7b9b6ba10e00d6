package modal

import (
	"copyist/api"
	"copyist/lines"
	"copyist/motion"
	"copyist/view"
)

// follow moves the window no more than it must for the cursor's line to be seen.
func (m *Machine) follow() {
	m.top = view.Follow(m.top, m.height, lines.Count(m.text()), m.number())
}

// seen tells the first and the last line of the window.
func (m *Machine) seen() (high, low int) {
	last := m.lastLine()
	return min(m.top, last), min(m.top+m.height-1, last)
}

// goToLine goes to a line, at the goal column.
func (m *Machine) goToLine(number int) {
	m.At = motion.Place(m.text(), number, m.goalColumn(), false)
}

// scrolled tells the window's first line behind a step of so many lines from a first line.
func (m *Machine) scrolled(top, by int) int {
	return view.Scroll(top, by, m.height, lines.Count(m.text()))
}

func (m *Machine) scrollPages(c api.Cmd) api.Errno {
	by := times(c) * max(m.height-2, 1)
	if c.Verb == api.VPageUp {
		by = -by
	}
	return m.scroll(by)
}

func (m *Machine) scrollRows(c api.Cmd) api.Errno {
	if c.Verb == api.VRowUp {
		return m.scroll(-times(c))
	}
	return m.scroll(times(c))
}

// scroll moves the window. The cursor goes with it only if its line is not seen any more.
func (m *Machine) scroll(by int) api.Errno {
	top := m.scrolled(m.top, by)
	if top == m.top {
		return api.ErrMove
	}
	m.top = top
	number := m.number()
	high, low := m.seen()
	if near := min(max(number, high), low); near != number {
		m.goToLine(near)
	}
	return api.OK
}

// scrollHalf moves the window and the cursor alike.
func (m *Machine) scrollHalf(c api.Cmd) api.Errno {
	by := c.Count
	if by == 0 {
		by = view.Part(m.height, 0.5)
	}
	if c.Verb == api.VHalfUp {
		by = -by
	}
	number := m.number()
	to := min(max(number+by, 0), m.lastLine())
	if to == number {
		return api.ErrMove
	}
	m.top = m.scrolled(m.top, by)
	m.goToLine(to)
	return api.OK
}

// scrollTo moves the window so that a line stands at its top, its middle or its bottom.
func (m *Machine) scrollTo(c api.Cmd) api.Errno {
	number := m.number()
	line := number
	if c.Count > 0 {
		line = min(c.Count-1, m.lastLine())
	}
	if line != number {
		m.goToLine(line)
	}
	ahead := 0 // how many lines stand above it
	switch c.Verb {
	case api.VMiddle:
		ahead = (m.height - 1) / 2
	case api.VBottom:
		ahead = m.height - 1
	}
	m.top = m.scrolled(0, line-ahead)
	return api.OK
}
