package piece

const (
	lineFeed = 10
	carriage = 13
)

// The numbers of a span by which a place in the text is sought.
const (
	byAtoms  = 0
	byBreaks = 1
)

// span is what atoms in a row add up to: how many they are, their bytes, and their breaks, reckoned as if nothing stood around them. So that a CR at the end of one span and an LF at the beginning of the next melt, it knows of both.
type span struct {
	atoms, size, breaks int
	lf, cr              bool // it begins with an LF, it ends with a CR
}

// single is the span of one atom.
func single(atom, size int) span {
	s := span{atoms: 1, size: size, lf: atom == lineFeed, cr: atom == carriage}
	if s.lf || s.cr {
		s.breaks = 1
	}
	return s
}

// melt tells whether the last atom of one span and the first of the next are one break.
func melt(s, o span) bool { return s.cr && o.lf }

// Add tells what two spans in a row add up to.
func (s span) Add(o span) span {
	if s.atoms == 0 {
		return o
	}
	if o.atoms == 0 {
		return s
	}
	sum := span{atoms: s.atoms + o.atoms, size: s.size + o.size, breaks: s.breaks + o.breaks, lf: s.lf, cr: o.cr}
	if melt(s, o) {
		sum.breaks--
	}
	return sum
}

// Key tells a number of the span. The breaks never fall as atoms come behind: an LF that melts was a break of its own.
func (s span) Key(k int) int {
	switch k {
	case byAtoms:
		return s.atoms
	case byBreaks:
		return s.breaks
	}
	return 0
}

// behind tells the span of the atoms behind the first ones, of which the next is told.
func (s span) behind(head span, next int) span {
	rest := span{atoms: s.atoms - head.atoms, size: s.size - head.size, breaks: s.breaks - head.breaks, lf: next == lineFeed, cr: s.cr}
	if melt(head, rest) {
		rest.breaks++
	}
	return rest
}
