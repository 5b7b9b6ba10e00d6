package modal

import (
	"slices"

	"copyist/api"
	"copyist/breaks"
	"copyist/cells"
	"copyist/lines"
)

// overSelected writes an atom over every cluster that was selected; breaks stay.
func (m *Machine) overSelected(s selected, c api.Cmd) api.Errno {
	if !isTyped(c.Arg) {
		return api.ErrKey
	}
	put := []int{c.Arg}
	var edits []api.Edit
	for cell := range cells.Up(m.text(), s.From) {
		if cell.At >= s.To {
			break
		}
		if !cell.IsBreak() {
			edits = append(edits, api.Edit{From: cell.At, To: cell.End, Put: put})
		}
	}
	if len(edits) == 0 {
		return api.ErrNothing
	}
	return m.putAt(s, edits...)
}

// putSelected puts a register's text in the place of what was selected.
func (m *Machine) putSelected(s selected, c api.Cmd) api.Errno {
	r, err := m.Bank.Get(c.Reg)
	if err != api.OK {
		return err
	}
	edit := api.Edit{From: s.From, To: s.To, Put: repeated(r.Text, times(c))}
	last := m.lineAt(lines.Of(m.text(), s.high))
	switch byLines := r.Kind == api.ByLines; {
	case s.Kind == api.ByLines && !byLines:
		edit.To = last.To
	case s.Kind == api.ByLines && last.Break == api.NoBreak:
		edit.Put = breaks.Without(edit.Put)
	case s.Kind == api.ByChars && byLines:
		edit.Put = slices.Concat(m.nativeBreak(), breaks.Without(edit.Put), m.nativeBreak())
	}
	return m.putAt(s, edit)
}

// putAt does edits as one group; the cursor goes to where the selection began.
func (m *Machine) putAt(s selected, edits ...api.Edit) api.Errno {
	return m.put(edits, func() int { return m.clamped(s.From) })
}

// repeated is a text so many times, but no more of it than is needed to be longer than any text may be: the book refuses that as it would refuse all of it.
func repeated(text []int, count int) []int {
	enough := api.MaxBytes/max(len(text), 1) + 2 // one of them may lose its last break
	return slices.Repeat(text, min(count, enough))
}
