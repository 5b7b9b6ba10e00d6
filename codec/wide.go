package codec

// wide is the coder of a 16-bit encoding: low is the place of the low half among a unit's two bytes.
type wide struct{ low int }

func isHighUnit(unit int) bool { return firstUnit <= unit && unit < firstLow }

func isLowUnit(unit int) bool { return firstLow <= unit && unit <= lastUnit }

func (w wide) unit(b []byte) int { return int(b[1-w.low])<<8 | int(b[w.low]) }

// isPair tells whether bytes begin with the two units of one scalar.
func (w wide) isPair(b []byte) bool {
	return len(b) >= 4 && isHighUnit(w.unit(b)) && isLowUnit(w.unit(b[2:]))
}

func (w wide) pair(b []byte) int {
	return firstPair + (w.unit(b)-firstUnit)*0x400 + (w.unit(b[2:]) - firstLow)
}

func (w wide) size(atom int) int {
	switch {
	case isRaw(atom):
		return 1
	case !isScalar(atom) && !isUnit(atom):
		return 0
	case atom < firstPair:
		return 2
	}
	return 4
}

func (w wide) put(out []byte, atom int) []byte {
	switch {
	case atom < 0:
		return append(out, rawByte(atom))
	case atom < firstPair:
		return w.putUnit(out, atom)
	}
	rest := atom - firstPair
	out = w.putUnit(out, firstUnit+rest/0x400)
	return w.putUnit(out, firstLow+rest%0x400)
}

func (w wide) putUnit(out []byte, unit int) []byte {
	var two [2]byte
	two[w.low] = byte(unit)
	two[1-w.low] = byte(unit >> 8)
	return append(out, two[0], two[1])
}

func (w wide) first(b []byte) (int, int) {
	switch {
	case len(b) == 1:
		return rawAtom(b[0]), 1
	case w.isPair(b):
		return w.pair(b), 4
	}
	return w.unit(b), 2
}

// A high unit is never the second of a pair: so whatever lies ahead, a pair that ends here was read as one.
func (w wide) last(b []byte) (int, int) {
	n := len(b)
	switch {
	case n%2 == 1:
		return rawAtom(b[n-1]), 1
	case n >= 4 && w.isPair(b[n-4:]):
		return w.pair(b[n-4:]), 4
	}
	return w.unit(b[n-2:]), 2
}

func (w wide) waits(b []byte) bool {
	return len(b) == 1 || len(b) < 4 && isHighUnit(w.unit(b))
}

func (w wide) mark() []byte {
	if w.low == 0 {
		return []byte{0xFF, 0xFE}
	}
	return []byte{0xFE, 0xFF}
}
