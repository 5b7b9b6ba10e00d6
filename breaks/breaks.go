// Package breaks: the atoms of line breaks, for the layers that put them and cut them off.
package breaks

import (
	"slices"

	"copyist/api"
)

const (
	lineFeed = 10
	carriage = 13
)

// Is tells whether an atom is a break, or one of the two of a CRLF.
func Is(atom int) bool { return atom == lineFeed || atom == carriage }

// IsKind tells whether a number is a kind of break.
func IsKind(kind int) bool { return kind == api.LF || kind == api.CRLF || kind == api.CR }

// Native is the kind of break that is typed, whatever the setting was set to.
func Native(setting int) int {
	if IsKind(setting) {
		return setting
	}
	return api.LF
}

// Of is a break of a kind.
func Of(kind int) []int {
	switch kind {
	case api.CR:
		return []int{carriage}
	case api.CRLF:
		return []int{carriage, lineFeed}
	}
	return []int{lineFeed}
}

// Typed is a typed line end with these atoms ahead of it and behind it: one that melts with none of them.
func Typed(kind int, ahead, behind []int) []int {
	end := Of(kind)
	melts := end[0] == lineFeed && endsWith(ahead, carriage) ||
		endsWith(end, carriage) && beginsWith(behind, lineFeed)
	if melts {
		return Of(api.CRLF)
	}
	return end
}

func beginsWith(atoms []int, atom int) bool { return len(atoms) > 0 && atoms[0] == atom }

func endsWith(atoms []int, atom int) bool {
	n := len(atoms)
	return n > 0 && atoms[n-1] == atom
}

// Without is a text by lines without its last break.
func Without(text []int) []int {
	n := len(text)
	if endsWith(text, lineFeed) && endsWith(text[:n-1], carriage) {
		return text[:n-2]
	}
	return text[:n-1]
}

// LastLine tells where the last line of a text by lines begins.
func LastLine(text []int) int {
	ahead := Without(text)
	for i, atom := range slices.Backward(ahead) {
		if Is(atom) {
			return i + 1
		}
	}
	return 0
}
