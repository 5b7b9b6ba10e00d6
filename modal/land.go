package modal

import (
	"copyist/api"
	"copyist/motion"
)

// move goes where a motion lands.
func (m *Machine) move(c api.Cmd) api.Errno {
	land, err := m.landing(c)
	if err != api.OK {
		return err
	}
	from := m.At
	m.At = m.clamped(land.At)
	if isFar(c.Move) {
		m.aimHere()
	} else {
		m.goal = goal{column: land.Goal, counted: true}
	}
	if isJump(c.Move) {
		m.Book.SetMark(jumpMark, from)
	}
	return api.OK
}

// isFar tells whether a motion hangs on more than the text: on what was sought, on a mark, on the window.
func isFar(move int) bool { return move >= api.MSearch && move <= api.MLow }

// isSought tells whether a motion waits for a pattern.
func isSought(move int) bool { return move == api.MSearch || move == api.MSearchBack }

func isJump(move int) bool {
	switch move {
	case api.MGoto, api.MTopRow, api.MPercent, api.MParaNext, api.MParaPrev, api.MMatch:
		return true
	}
	return isFar(move)
}

func (m *Machine) landing(c api.Cmd) (api.Land, api.Errno) {
	if isFar(c.Move) {
		return m.far(c)
	}
	move, err := m.motion(c)
	if err != api.OK {
		return api.Land{}, err
	}
	land, err := m.near(move)
	if err == api.OK {
		m.keepFind(c)
	}
	return land, err
}

// motion is the one that a command means: for ; and , it is the last find.
func (m *Machine) motion(c api.Cmd) (api.Move, api.Errno) {
	if c.Move != api.MAgain && c.Move != api.MReverse {
		return api.Move{Kind: c.Move, Count: c.Count, Arg: c.Arg}, api.OK
	}
	if m.found.Kind == 0 {
		return api.Move{}, api.ErrMove
	}
	kind := m.found.Kind
	if c.Move == api.MReverse {
		kind = turned(kind)
	}
	return api.Move{Kind: kind, Count: c.Count, Arg: m.found.Arg}, api.OK
}

// turned is the find that goes the other way.
func turned(kind int) int {
	switch kind {
	case api.MFind:
		return api.MFindBack
	case api.MFindBack:
		return api.MFind
	case api.MTill:
		return api.MTillBack
	}
	return api.MTill
}

// keepFind keeps what a find has found, for it to be done again.
func (m *Machine) keepFind(c api.Cmd) {
	switch c.Move {
	case api.MFind, api.MFindBack, api.MTill, api.MTillBack:
		m.found = api.Move{Kind: c.Move, Arg: c.Arg}
	}
}

// near tells where a motion lands that hangs on the text alone.
func (m *Machine) near(move api.Move) (api.Land, api.Errno) {
	switch kind := move.Kind; {
	case kind <= api.MTillBack:
		return motion.Chars(m.text(), m.At, move, false)
	case kind <= api.MPercent:
		return motion.Rows(m.text(), m.At, m.goalColumn(), move)
	case kind <= api.MBigRest:
		return motion.Words(m.text(), m.At, move, false)
	}
	return motion.Paras(m.text(), m.At, move)
}

// far tells where any other motion lands. Its goal is not told.
func (m *Machine) far(c api.Cmd) (api.Land, api.Errno) {
	switch c.Move {
	case api.MSearch, api.MSearchBack, api.MNext: // what was typed for a search is the last one by now
		return m.seek(times(c), m.back)
	case api.MPrev:
		return m.seek(times(c), !m.back)
	case api.MStar, api.MHash:
		if err := m.setSearchHere(c.Move == api.MHash); err != api.OK {
			return api.Land{}, err
		}
		return m.seek(times(c), m.back)
	case api.MMark, api.MMarkLine:
		return m.marked(c)
	}
	return m.inWindow(c), api.OK
}

// marked tells where a mark is.
func (m *Machine) marked(c api.Cmd) (api.Land, api.Errno) {
	at, err := m.Book.Mark(markName(c.Arg))
	if err != api.OK {
		return api.Land{}, err
	}
	at = m.clamped(at)
	if c.Move == api.MMarkLine {
		return api.Land{At: m.firstSign(at), Kind: api.Linewise}, api.OK
	}
	return api.Land{At: at, Kind: api.Exclusive}, api.OK
}

// inWindow tells the first sign of a line that is seen.
func (m *Machine) inWindow(c api.Cmd) api.Land {
	high, low := m.seen()
	line := high + (low-high)/2
	switch c.Move {
	case api.MHigh:
		line = min(high+times(c)-1, low)
	case api.MLow:
		line = max(low-times(c)+1, high)
	}
	return api.Land{At: m.firstSign(m.lineAt(line).From), Kind: api.Linewise}
}
