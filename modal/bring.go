package modal

import (
	"slices"

	"copyist/api"
	"copyist/breaks"
	"copyist/lines"
)

// Bring puts text behind a line (0: ahead of the first), as whole lines.
func (m *Machine) Bring(line int, text []int) api.Errno {
	switch {
	case m.mode != api.Normal:
		return api.ErrArg
	case line < 0 || line > lines.Count(m.text()):
		return api.ErrLine
	case slices.ContainsFunc(text, isNoAtom):
		return api.ErrRange
	case len(text) == 0:
		return api.OK
	}
	edit, place := m.wholeLines(line, text)
	err := m.put([]api.Edit{edit}, func() int { return m.firstSign(place) })
	if err == api.OK {
		m.aimHere()
		m.follow()
	}
	return err
}

func isNoAtom(atom int) bool { return !isAtom(atom) }

// wholeLines tells the edit that puts text behind a line, and where the text begins then.
func (m *Machine) wholeLines(line int, text []int) (api.Edit, int) {
	if !breaks.Is(text[len(text)-1]) {
		text = slices.Concat(text, m.nativeBreak())
	}
	if line == 0 {
		return api.Edit{Put: text}, 0
	}
	above := m.lineAt(line - 1)
	at := above.Next
	var end []int
	if above.Break == api.NoBreak {
		text = breaks.Without(text)
		end = breaks.Typed(breaks.Native(m.Set.Native), m.text().Atoms(at-1, at), text)
	}
	return api.Edit{From: at, To: at, Put: slices.Concat(end, text)}, at + len(end)
}
