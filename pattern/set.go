package pattern

import (
	"cmp"
	"slices"

	"copyist/glyph"
)

// set is a single: what it takes, or, if not, what it doesn't take.
type set struct {
	spans []span
	kinds kind
	not   bool
}

// span is the ints from one to another, both with them.
type span struct{ from, to int }

// kind is a sort of atoms that is asked of package glyph; several can be joined.
type kind uint8

const (
	word  kind = 1 << iota // \w
	small                  // \l
	great                  // \u
)

func setOf(spans ...span) *set { return &set{spans: spans} }

func only(atom int) *set { return setOf(span{atom, atom}) }

func raw(number int) int { return -1 - number }

func isRaw(atom int) bool { return raw(255) <= atom && atom <= raw(0) }

// turn makes a set take just what it didn't take.
func (s *set) turn() *set {
	s.not = !s.not
	return s
}

// join takes what another one takes too.
func (s *set) join(other *set) {
	s.spans = append(s.spans, other.spans...)
	s.kinds |= other.kinds
}

// tidy sorts the spans and makes one of those that overlap, so that they can be sought by halves.
func (s *set) tidy() {
	slices.SortFunc(s.spans, func(a, b span) int { return cmp.Compare(a.from, b.from) })
	kept := s.spans[:0]
	for _, next := range s.spans {
		if last := len(kept) - 1; last >= 0 && next.from <= kept[last].to {
			kept[last].to = max(kept[last].to, next.to)
		} else {
			kept = append(kept, next)
		}
	}
	s.spans = kept
}

// has tells whether an atom is in one of the spans.
func (s *set) has(atom int) bool {
	low, high := 0, len(s.spans)
	for low < high {
		middle := (low + high) / 2
		if s.spans[middle].to < atom {
			low = middle + 1
		} else {
			high = middle
		}
	}
	return low < len(s.spans) && s.spans[low].from <= atom
}

// stretch gives the atoms from a sign to another, if they are a stretch.
func stretch(first, last int) (*set, bool) {
	switch {
	case 0 <= first && first <= last:
		return setOf(span{first, last}), true
	case isRaw(first) && isRaw(last) && last <= first:
		// The atoms of raw bytes go down as the bytes go up.
		return setOf(span{last, first}), true
	}
	return nil, false
}

// kindsOf tells of which of the kinds that are asked for an atom is.
func kindsOf(atom int, asked kind) kind {
	var found kind
	if asked&word != 0 && glyph.Word(atom) == glyph.Letter {
		found |= word
	}
	if asked&small != 0 && glyph.Upper(atom) != atom {
		found |= small
	}
	if asked&great != 0 && glyph.Lower(atom) != atom {
		found |= great
	}
	return found
}
