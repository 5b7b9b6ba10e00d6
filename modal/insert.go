package modal

import (
	"copyist/api"
	"copyist/cells"
	"copyist/glyph"
)

// insertKey is a key in the mode Insert.
func (m *Machine) insertKey(key int) api.Errno { return m.typingKey(key, m.insert, m.insertOther) }

// replaceKey is a key in the mode Replace.
func (m *Machine) replaceKey(key int) api.Errno { return m.typingKey(key, m.replace, m.replaceOther) }

// typingKey is a key that is typed: put puts one that stands for itself, other does what any other key does.
func (m *Machine) typingKey(key int, put, other func(key int) api.Errno) api.Errno {
	switch {
	case m.literal:
		m.literal = false
		if !isLiteral(key) {
			return api.ErrKey
		}
		return m.kept(put(key), api.KeyCtrlV, key)
	case key == api.KeyEscape:
		return m.escape()
	case key == api.KeyCtrlV:
		m.literal = true
		return api.OK
	case isTyped(key):
		return m.kept(put(key), key)
	}
	return m.kept(other(key), key)
}

// kept keeps keys of the typing that went well.
func (m *Machine) kept(err api.Errno, keys ...int) api.Errno {
	if err == api.OK && !m.typing.again {
		m.typing.keys = append(m.typing.keys, keys...)
	}
	return err
}

// insert types an atom.
func (m *Machine) insert(atom int) api.Errno { return m.Type([]int{atom}) }

func (m *Machine) insertOther(key int) api.Errno {
	switch key {
	case api.KeyReturn:
		return m.insert(lineFeed)
	case api.KeyBack, api.KeyDelete:
		return m.takeBack(m.placeAhead())
	case api.KeyCtrlW:
		return m.takeBack(m.wordAhead())
	case api.KeyCtrlU:
		return m.takeBack(m.contentAhead())
	}
	return api.ErrKey
}

// takeBack takes away what stands from an offset up to the cursor.
func (m *Machine) takeBack(from int) api.Errno {
	if from == m.At {
		return api.ErrNothing
	}
	err := m.Book.Change([]api.Edit{{From: from, To: m.At}})
	if err == api.OK {
		m.At = from
	}
	return err
}

// placeAhead is where the cluster begins that is ahead of the cursor, or the break, or the 13 of a CRLF.
func (m *Machine) placeAhead() int {
	number := m.number()
	line := m.lineAt(number)
	if m.At == line.From && number > 0 {
		return m.lineAt(number - 1).To
	}
	return m.boundaryAhead(line)
}

// wordAhead is where the word begins that is ahead of the cursor in its line.
func (m *Machine) wordAhead() int {
	line := m.here()
	if !isInContent(m.At, line) {
		return m.placeAhead()
	}
	for size := window; ; size *= 2 {
		from := max(m.At-size, line.From)
		at := from + wordStart(m.text().Atoms(from, m.At))
		if at > from || from == line.From {
			return at
		}
	}
}

// window is how many atoms are read at first to find a word's beginning.
const window = 64

// contentAhead is where the line begins.
func (m *Machine) contentAhead() int {
	if line := m.here(); isInContent(m.At, line) {
		return line.From
	}
	return m.placeAhead()
}

// isInContent tells whether there is any content of the line ahead of an offset, and nothing else.
func isInContent(at int, line api.Line) bool { return line.From < at && at <= line.To }

// replace types an atom in the place of a cluster, or of what is left of it; at a line's end it takes nothing away.
func (m *Machine) replace(atom int) api.Errno {
	to := m.At
	if m.At < m.here().To {
		to = cells.Of(m.text(), m.At).End
	}
	err := m.Book.Change([]api.Edit{{From: m.At, To: to, Put: []int{atom}}})
	if err == api.OK {
		m.At++
	}
	return err
}

func (m *Machine) replaceOther(key int) api.Errno {
	switch key {
	case api.KeyReturn:
		return m.insert(lineFeed)
	case api.KeyBack, api.KeyDelete:
		at := m.boundaryAhead(m.here())
		if at == m.At {
			return api.ErrNothing
		}
		m.At = at
		return api.OK
	}
	return api.ErrKey
}

// isSeen tells whether an atom is no blank.
func isSeen(atom int) bool { return glyph.Word(atom) != glyph.Blank }
