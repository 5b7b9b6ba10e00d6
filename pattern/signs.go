package pattern

// The atoms that are written by a letter.
const (
	tab      = 9
	lineFeed = 10
	carriage = 13
	escape   = 27
)

func isDigit(c int) bool { return '0' <= c && c <= '9' }

func isLetter(c int) bool { return 'a' <= c && c <= 'z' || 'A' <= c && c <= 'Z' }

func hexDigit(c int) (int, bool) {
	switch {
	case isDigit(c):
		return c - '0', true
	case 'a' <= c && c <= 'f':
		return c - 'a' + 10, true
	case 'A' <= c && c <= 'F':
		return c - 'A' + 10, true
	}
	return 0, false
}
