package piece

import "copyist/codec"

// maxPiece bounds the bytes of a piece: an atom in it is found by reading from its beginning on.
const maxPiece = 64

// added stands for the place of bytes that were not loaded.
const added = -1

// piece is a stretch of the loaded bytes or of added ones which, read for itself, gives just the atoms that it stands for. No other bytes are ever read with it: so nothing melts where two come to stand side by side. Its bytes may be shared with other pieces: they are never written, and the slice has no room behind them.
type piece struct {
	bytes []byte
	place int // of the first byte among the loaded ones, or added
	sum   span
}

// Measure tells what the piece adds to a text.
func (p piece) Measure() span { return p.sum }

// tag tells the tag of the atom that begins at a byte of the piece.
func (p piece) tag(k int) int {
	if p.place == added {
		return added
	}
	return p.place + k
}

// skip tells at which byte the atom number n begins.
func (p piece) skip(enc, n int) int {
	if len(p.bytes) == p.sum.atoms {
		return n
	}
	k := 0
	for range n {
		_, size := codec.Next(enc, p.bytes, k)
		k += size
	}
	return k
}

// split parts the first n atoms from the others. It reads no others, so that a piece may be taken off bit by bit.
func (p piece) split(enc, n int) (piece, piece) {
	if n == 0 {
		return piece{}, p
	}
	var sum span
	for range n {
		sum = sum.Add(single(codec.Next(enc, p.bytes, sum.size)))
	}
	k := sum.size
	next, _ := codec.Next(enc, p.bytes, k)
	head := piece{bytes: p.bytes[:k:k], place: p.place, sum: sum}
	rest := piece{bytes: p.bytes[k:len(p.bytes):len(p.bytes)], place: p.tag(k), sum: p.sum.behind(sum, next)}
	return head, rest
}

// cut makes pieces of bytes whose atoms are told. Where an atom would be read otherwise behind those ahead of it, another piece begins.
func cut(enc int, atoms []int, b []byte) []piece {
	var pieces []piece
	var sum span // of the piece that is being made
	start, end := 0, 0
	for _, atom := range atoms {
		size := codec.Size(enc, atom)
		if end+size-start > maxPiece || !endsWith(enc, b[start:end+size], atom) {
			pieces = append(pieces, piece{bytes: b[start:end:end], place: start, sum: sum})
			start, sum = end, span{}
		}
		end += size
		sum = sum.Add(single(atom, size))
	}
	if start == end {
		return pieces
	}
	return append(pieces, piece{bytes: b[start:end:end], place: start, sum: sum})
}

// endsWith tells whether the last atom of bytes is that one. Bytes to which this holds atom by atom are read as just these atoms.
func endsWith(enc int, b []byte, atom int) bool {
	last, _ := codec.Prev(enc, b, len(b))
	return last == atom
}

// glue makes one piece of two of added bytes, if they are read in one as they are apart.
func glue(enc int, p, q piece) (piece, bool) {
	both := make([]byte, len(p.bytes)+len(q.bytes))
	copy(both, p.bytes)
	copy(both[len(p.bytes):], q.bytes)
	for k := 0; k < len(q.bytes); {
		atom, size := codec.Next(enc, q.bytes, k)
		k += size
		if !endsWith(enc, both[:len(p.bytes)+k], atom) {
			return piece{}, false
		}
	}
	return piece{bytes: both, place: added, sum: p.sum.Add(q.sum)}, true
}

func copyOf(b []byte) []byte {
	own := make([]byte, len(b))
	copy(own, b)
	return own
}
