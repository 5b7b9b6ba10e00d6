package codec

// narrow is the coder of UTF8.
type narrow struct{}

// row tells of a first byte how many bytes its row has, and from which to which the second may go; 0 bytes, if no row begins so.
func row(first byte) (size int, from, to byte) {
	switch {
	case first <= 0x7F:
		return 1, 0, 0
	case first < 0xC2:
		return 0, 0, 0
	case first <= 0xDF:
		return 2, 0x80, 0xBF
	case first == 0xE0:
		return 3, 0xA0, 0xBF
	case first == 0xED:
		return 3, 0x80, 0x9F
	case first <= 0xEF:
		return 3, 0x80, 0xBF
	case first == 0xF0:
		return 4, 0x90, 0xBF
	case first <= 0xF3:
		return 4, 0x80, 0xBF
	case first == 0xF4:
		return 4, 0x80, 0x8F
	}
	return 0, 0, 0
}

// match tells how many bytes the row has that bytes begin with or are the beginning of; 0, if there is none.
func match(b []byte) int {
	size, from, to := row(b[0])
	for i := 1; i < size && i < len(b); i++ {
		if b[i] < from || b[i] > to {
			return 0
		}
		from, to = 0x80, 0xBF
	}
	return size
}

// scalar puts together what the bytes of one whole row mean.
func scalar(b []byte) int {
	if len(b) == 1 {
		return int(b[0])
	}
	// Of the first byte of n the highest n + 1 bits only tell the row.
	atom := int(b[0]) & (0x7F >> len(b))
	for _, x := range b[1:] {
		atom = atom<<6 | int(x&0x3F)
	}
	return atom
}

func (narrow) size(atom int) int {
	switch {
	case isRaw(atom) && rawByte(atom) >= 0x80:
		return 1
	case !isScalar(atom):
		return 0
	case atom < 0x80:
		return 1
	case atom < 0x800:
		return 2
	case atom < firstPair:
		return 3
	}
	return 4
}

func (narrow) put(out []byte, atom int) []byte {
	switch {
	case atom < 0:
		return append(out, rawByte(atom))
	case atom < 0x80:
		return append(out, byte(atom))
	case atom < 0x800:
		return append(out, byte(0xC0|atom>>6), further(atom))
	case atom < firstPair:
		return append(out, byte(0xE0|atom>>12), further(atom>>6), further(atom))
	}
	return append(out, byte(0xF0|atom>>18), further(atom>>12), further(atom>>6), further(atom))
}

// further is a byte of a row behind the first: the low six bits of what is left.
func further(rest int) byte { return byte(0x80 | rest&0x3F) }

func (narrow) first(b []byte) (int, int) {
	if size := match(b); size > 0 && size <= len(b) {
		return scalar(b[:size]), size
	}
	return rawAtom(b[0]), 1
}

// No first byte of a row may stand further on in one: so whatever lies ahead, a row that ends here was read as one.
func (narrow) last(b []byte) (int, int) {
	for size := 1; size <= 4 && size <= len(b); size++ {
		tail := b[len(b)-size:]
		if match(tail) == size {
			return scalar(tail), size
		}
	}
	return rawAtom(b[len(b)-1]), 1
}

func (narrow) waits(b []byte) bool { return match(b) > len(b) }

func (narrow) mark() []byte { return []byte{0xEF, 0xBB, 0xBF} }
