package codec

import (
	"bytes"

	"copyist/api"
)

// Detect tells the encoding of a byte order mark, and the mark's bytes; 0, 0, if there is none.
func Detect(b []byte) (int, int) {
	for enc := api.UTF8; enc <= api.Latin1; enc++ {
		mark := Mark(enc)
		if len(mark) > 0 && bytes.HasPrefix(b, mark) {
			return enc, len(mark)
		}
	}
	return 0, 0
}

// Mark tells an encoding's byte order mark.
func Mark(enc int) []byte {
	c, ok := coderOf(enc)
	if !ok {
		return nil
	}
	return c.mark()
}

// Guess tells which encoding bytes look like, and the share that speaks for it.
func Guess(b []byte) (int, float64) {
	if enc, size := Detect(b); size > 0 {
		return enc, 1
	}
	if enc, share := guessWide(b); enc != 0 {
		return enc, share
	}
	return guessNarrow(b)
}

// guessWide tells a 16-bit encoding, if zeros keep to one half of the units; else 0.
func guessWide(b []byte) (int, float64) {
	units := len(b) / 2
	if units == 0 {
		return 0, 0
	}
	hi := zeroShare(b, 0, units)
	lo := zeroShare(b, 1, units)
	switch {
	case lo >= 0.5 && hi <= 0.125:
		return api.UTF16LE, lo
	case hi >= 0.5 && lo <= 0.125:
		return api.UTF16BE, hi
	}
	return 0, 0
}

// zeroShare tells the share of zeros among the bytes of that place in each unit.
func zeroShare(b []byte, place, units int) float64 {
	zeros := 0
	for i := range units {
		if b[2*i+place] == 0 {
			zeros++
		}
	}
	return float64(zeros) / float64(units)
}

// guessNarrow tells UTF8, if enough of the bytes above ASCII stand in its rows; else Latin1.
func guessNarrow(b []byte) (int, float64) {
	high, raw := countHighAndRaw(b)
	if raw == 0 {
		return api.UTF8, 1
	}
	// A raw byte of UTF8 is a high one: so high is not 0 here.
	good := float64(high-raw) / float64(high)
	if good >= 0.75 {
		return api.UTF8, good
	}
	return api.Latin1, 1 - good
}

// countHighAndRaw counts the bytes 0x80..0xFF, and those of them that UTF8 reads as raw bytes.
func countHighAndRaw(b []byte) (high, raw int) {
	for len(b) > 0 {
		atom, n := narrow{}.first(b)
		switch {
		case isRaw(atom):
			high++
			raw++
		case n > 1:
			high += n
		}
		b = b[n:]
	}
	return high, raw
}
