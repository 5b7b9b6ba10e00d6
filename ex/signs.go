package ex

import "unicode/utf8"

const (
	signs      = "/#,;:!@=" // what a pattern may stand between
	takeables  = "\"-_"     // registers that may be written, beside the letters
	puttables  = ".:/"      // registers that are read alone, beside the digits
	fileFirst  = 33         // of a file's name: the least atom
	fileLast   = 126        // and the greatest one
	lastOfByte = 127
)

func isAny(int) bool { return true }

func isBlank(atom int) bool { return atom == blank || atom == tab }

func isDigit(atom int) bool { return atom >= '0' && atom <= '9' }

func isSmall(atom int) bool { return atom >= 'a' && atom <= 'z' }

func isLetter(atom int) bool { return isSmall(atom) || atom >= 'A' && atom <= 'Z' }

func isSign(atom int) bool { return isOneOf(signs, atom) }

func isTakeable(atom int) bool { return isLetter(atom) || isOneOf(takeables, atom) }

func isPuttable(atom int) bool {
	return isTakeable(atom) || isDigit(atom) || isOneOf(puttables, atom)
}

// isNamed tells whether a mark may be named so, in a line: the book knows better.
func isNamed(atom int) bool { return atom != 0 && !isBlank(atom) }

func isOfFile(atom int) bool { return atom >= fileFirst && atom <= fileLast }

func isOneOf(list string, atom int) bool {
	for _, sign := range list {
		if int(sign) == atom {
			return true
		}
	}
	return false
}

// spelled is a row of atoms as a word, in which no atom is taken for another one.
func spelled(atoms []int) string {
	word := make([]rune, len(atoms))
	for i, atom := range atoms {
		word[i] = utf8.RuneError
		if atom >= 0 && atom <= lastOfByte {
			word[i] = rune(atom)
		}
	}
	return string(word)
}
