package operate

import "copyist/api"

const (
	tab      = 9
	lineFeed = 10
	carriage = 13
	blank    = 32
	closing  = ')'
)

func isBreak(atom int) bool { return atom == lineFeed || atom == carriage }

func isNative(kind int) bool { return kind == api.LF || kind == api.CRLF || kind == api.CR }

// native is the kind of break that is typed, whatever the setting was set to.
func (d *Desk) native() int {
	if isNative(d.Set.Native) {
		return d.Set.Native
	}
	return api.LF
}

func (d *Desk) nativeBreak() []int {
	switch d.native() {
	case api.CR:
		return []int{carriage}
	case api.CRLF:
		return []int{carriage, lineFeed}
	}
	return []int{lineFeed}
}

// lineEnd is a typed line end with these atoms ahead of it and behind it: one that melts with none of them.
func (d *Desk) lineEnd(ahead, behind []int) []int {
	end := d.nativeBreak()
	melts := end[0] == lineFeed && endsWith(ahead, carriage) ||
		endsWith(end, carriage) && beginsWith(behind, lineFeed)
	if melts {
		return []int{carriage, lineFeed}
	}
	return end
}

func beginsWith(atoms []int, atom int) bool { return len(atoms) > 0 && atoms[0] == atom }

func endsWith(atoms []int, atom int) bool {
	n := len(atoms)
	return n > 0 && atoms[n-1] == atom
}

// breakAt tells how many atoms the break has that the atoms begin with.
func breakAt(atoms []int) int {
	switch {
	case beginsWith(atoms, carriage) && beginsWith(atoms[1:], lineFeed):
		return 2
	case len(atoms) > 0 && isBreak(atoms[0]):
		return 1
	}
	return 0
}

// withoutBreak is a text by lines without its last break.
func withoutBreak(text []int) []int {
	n := len(text)
	if endsWith(text, lineFeed) && endsWith(text[:n-1], carriage) {
		return text[:n-2]
	}
	return text[:n-1]
}
