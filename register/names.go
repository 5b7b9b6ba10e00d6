package register

import "copyist/api"

// The names that stand for one register, or for a row of them.
const (
	unnamed = '"'
	yanked  = '0'
	newest  = '1' // of the ring
	oldest  = '9'
	dash    = '-'
	hole    = '_'
	typed   = '.'
	command = ':'
	sought  = '/'
)

func isName(name int) bool {
	switch {
	case isSmall(name), isGreat(name), isDigit(name), isUnnamed(name), isOnlyRead(name):
		return true
	}
	return name == dash || name == hole
}

func isSmall(name int) bool { return name >= 'a' && name <= 'z' }

func isGreat(name int) bool { return name >= 'A' && name <= 'Z' }

func isDigit(name int) bool { return name >= yanked && name <= oldest }

func isUnnamed(name int) bool { return name == unnamed || name == 0 }

func isOnlyRead(name int) bool { return name == typed || name == command || name == sought }

// small is the name under which a register is held, however it is spelled.
func small(name int) int {
	if isGreat(name) {
		return name - 'A' + 'a'
	}
	return name
}

// refused tells why nothing of that kind may be taken under a name, however long it is.
func refused(name, kind int) api.Errno {
	switch {
	case !isName(name):
		return api.ErrReg
	case isOnlyRead(name):
		return api.ErrRead
	case kind != api.ByChars && kind != api.ByLines:
		return api.ErrArg
	}
	return api.OK
}
