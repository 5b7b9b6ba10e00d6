// Package codec: bytes and atoms: see DOC.md, chapter 1.
package codec

import "copyist/api"

// Decode tells the atoms of bytes.
func Decode(enc int, b []byte) ([]int, api.Errno) {
	c, ok := coderOf(enc)
	if !ok {
		return nil, api.ErrEnc
	}
	return decodeAll(c, b), api.OK
}

func decodeAll(c coder, b []byte) []int {
	var atoms []int
	for len(b) > 0 {
		atom, n := c.first(b)
		atoms = append(atoms, atom)
		b = b[n:]
	}
	return atoms
}

// Encode tells the bytes of atoms; with ErrFit the place of the first that has none.
func Encode(enc int, atoms []int) ([]byte, int, api.Errno) {
	c, ok := coderOf(enc)
	if !ok {
		return nil, 0, api.ErrEnc
	}
	var out []byte
	for i, atom := range atoms {
		if c.size(atom) == 0 {
			return nil, i, api.ErrFit
		}
		out = c.put(out, atom)
	}
	return out, 0, api.OK
}

// Fits tells whether an encoding has bytes for an atom.
func Fits(enc int, atom int) bool { return Size(enc, atom) > 0 }

// Size tells how many bytes an atom has; 0, if the encoding has none for it.
func Size(enc int, atom int) int {
	c, ok := coderOf(enc)
	if !ok {
		return 0
	}
	return c.size(atom)
}

// Next tells the first atom of the bytes from a place on, and its bytes; 0, 0, if there are none.
func Next(enc int, b []byte, at int) (int, int) {
	c, ok := coderOf(enc)
	if !ok || at < 0 || at >= len(b) {
		return 0, 0
	}
	return c.first(b[at:])
}

// Prev tells the last atom of the bytes up to a place, and its bytes; 0, 0, if there are none.
func Prev(enc int, b []byte, at int) (int, int) {
	c, ok := coderOf(enc)
	if !ok || at <= 0 || at > len(b) {
		return 0, 0
	}
	return c.last(b[:at])
}
