package codec

import (
	"slices"

	"copyist/api"
)

// Stream decodes bytes that come in parts.
type Stream struct {
	coder coder
	held  [3]byte
	count int // how many of held wait
}

// NewStream makes a stream that holds nothing yet.
func NewStream(enc int) (*Stream, api.Errno) {
	c, ok := coderOf(enc)
	if !ok {
		return nil, api.ErrEnc
	}
	return &Stream{coder: c}, api.OK
}

// Feed takes the next part, and tells the atoms that are certain now.
func (s *Stream) Feed(b []byte) []int {
	if s.count > 0 {
		b = slices.Concat(s.held[:s.count], b)
	}
	var atoms []int
	for len(b) > 0 && !s.coder.waits(b) {
		atom, n := s.coder.first(b)
		atoms = append(atoms, atom)
		b = b[n:]
	}
	s.count = copy(s.held[:], b)
	return atoms
}

// Held tells how many bytes wait for more.
func (s *Stream) Held() int { return s.count }

// Close tells the atoms of what waits; the stream begins anew.
func (s *Stream) Close() []int {
	atoms := decodeAll(s.coder, s.held[:s.count])
	s.count = 0
	return atoms
}
