package modal

import (
	"slices"
	"strconv"

	"copyist/api"
	"copyist/ex"
)

// prompt is a line while it is typed.
type prompt struct {
	line  []int
	waits api.Cmd // the command that waits for a pattern
	mode  int     // the one that is left, and to which it goes back
}

// beginLine begins a command line; a count stands in it as so many lines.
func (m *Machine) beginLine(c api.Cmd) api.Errno {
	var line []int
	switch {
	case c.Count == 1:
		line = spelled(".")
	case c.Count > 1:
		line = spelled(".,.+" + strconv.Itoa(c.Count-1))
	}
	m.ask(api.Command, prompt{line: line})
	return api.OK
}

// beginSelectedLine begins a command line on the lines that were selected.
func (m *Machine) beginSelectedLine(selected, api.Cmd) api.Errno {
	m.ask(api.Command, prompt{line: spelled("'<,'>")})
	return api.OK
}

// awaitPattern lets a command wait for a pattern.
func (m *Machine) awaitPattern(c api.Cmd) {
	mode := api.Search
	if c.Move == api.MSearchBack {
		mode = api.SearchBack
	}
	m.ask(mode, prompt{waits: c})
}

// ask begins a line.
func (m *Machine) ask(mode int, p prompt) {
	p.mode = m.mode
	m.prompt, m.mode = p, mode
}

// spelled is a text as its atoms.
func spelled(text string) []int {
	var atoms []int
	for _, r := range text {
		atoms = append(atoms, int(r))
	}
	return atoms
}

// promptKey is a key in the modes Command, Search and SearchBack.
func (m *Machine) promptKey(key int) api.Errno {
	p := &m.prompt
	switch {
	case m.literal:
		m.literal = false
		if !isLiteral(key) {
			return api.ErrKey
		}
		return p.add(key)
	case isTyped(key):
		return p.add(key)
	}
	switch key {
	case api.KeyEscape:
		m.leaveLine()
	case api.KeyReturn:
		return m.doLine()
	case api.KeyBack, api.KeyDelete:
		if len(p.line) == 0 {
			m.leaveLine()
		} else {
			p.line = p.line[:len(p.line)-1]
		}
	case api.KeyCtrlU:
		p.line = nil
	case api.KeyCtrlW:
		p.line = p.line[:wordStart(p.line)]
	case api.KeyCtrlV:
		m.literal = true
	default:
		return api.ErrKey
	}
	return api.OK
}

func (p *prompt) add(atom int) api.Errno {
	if len(p.line) >= api.MaxLine {
		return api.ErrLong
	}
	p.line = append(p.line, atom)
	return api.OK
}

// leaveLine goes back to the mode in which the line was begun, and tells the line.
func (m *Machine) leaveLine() prompt {
	p := m.prompt
	m.prompt, m.mode = prompt{}, p.mode
	return p
}

// doLine does what a line is for.
func (m *Machine) doLine() api.Errno {
	isCommand := m.mode == api.Command
	p := m.leaveLine()
	if isCommand {
		return m.doCommandLine(p.line)
	}
	return m.doSearch(p)
}

// doSearch makes the line the last search, and does the command that has waited for it.
func (m *Machine) doSearch(p prompt) api.Errno {
	pattern := p.line
	if len(pattern) == 0 {
		pattern = m.Find
	}
	if len(pattern) == 0 {
		return api.ErrEmpty
	}
	if err := m.setSearch(pattern, p.waits.Move == api.MSearchBack); err != api.OK {
		return err
	}
	return m.perform(p.waits)
}

func (m *Machine) doCommandLine(line []int) api.Errno {
	if len(line) == 0 {
		return api.OK
	}
	m.Bank.Set(ofLine, line)
	if m.isPlaying() {
		if x, _, err := ex.Parse(line); err == api.OK && x.Verb >= api.XWrite {
			return api.ErrNested
		}
	}
	return m.run(line)
}

// run does a command line. A pattern of its own that it has left is sought forward from then on.
func (m *Machine) run(line []int) api.Errno {
	ahead := m.Find
	wish, err := ex.Run(m.bench.Desk, line)
	if err != api.OK {
		return err
	}
	if !slices.Equal(ahead, m.Find) {
		m.back = false
	}
	m.asked = wish
	m.aimHere()
	return api.OK
}

// substituteAgain does the last substitution again, as a command line would.
func (m *Machine) substituteAgain(api.Cmd) api.Errno { return m.run([]int{'&'}) }
