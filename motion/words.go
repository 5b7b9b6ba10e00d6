package motion

import (
	"iter"

	"copyist/api"
	"copyist/cells"
	"copyist/glyph"
	"copyist/piece"
)

// Words is w, b, e, ge, W, B, E, gE, and the rests of words.
func Words(t *piece.Text, at int, m api.Move, past bool) (api.Land, api.Errno) {
	w := wordWays()
	if !w.has(m.Kind) {
		return api.Land{}, api.ErrArg
	}
	return w[m.Kind](newWordStand(t, at, m, past))
}

func newWordStand(t *piece.Text, at int, m api.Move, past bool) stand {
	s := newStand(t, at, m, past)
	switch m.Kind {
	case api.MBigWord, api.MBigBack, api.MBigEnd, api.MBigBackEnd, api.MBigRest:
		s.big = true
	}
	return s
}

func wordWays() ways {
	return ways{
		api.MWord:       stand.word,
		api.MBack:       stand.back,
		api.MWordEnd:    stand.wordEnd,
		api.MBackEnd:    stand.backEnd,
		api.MRest:       stand.rest,
		api.MBigWord:    stand.word,
		api.MBigBack:    stand.back,
		api.MBigEnd:     stand.wordEnd,
		api.MBigBackEnd: stand.backEnd,
		api.MBigRest:    stand.rest,
	}
}

func (s stand) word() (api.Land, api.Errno) {
	to, ok := s.kth(s.seamsUp(), s.begun)
	if !ok {
		to = s.endPlace()
	}
	if to <= s.at {
		return nowhere()
	}
	return s.exclusive(to)
}

// endPlace is where a motion by words goes that finds no more of them.
func (s stand) endPlace() int {
	last := lastLine(s.text)
	if s.past {
		return last.To
	}
	return lastPlace(s.text, last)
}

func (s stand) back() (api.Land, api.Errno) {
	if s.at == 0 {
		return nowhere()
	}
	to, _ := s.kth(s.seamsDown(), s.begun)
	return s.exclusive(to)
}

func (s stand) wordEnd() (api.Land, api.Errno) {
	to, ok := s.kth(s.seamsUp(), s.ended)
	if !ok {
		to = lastPlace(s.text, lastLine(s.text))
	}
	if to <= s.at {
		return nowhere()
	}
	return s.inclusive(to)
}

func (s stand) backEnd() (api.Land, api.Errno) {
	if s.at == 0 {
		return nowhere()
	}
	to, _ := s.kth(s.seamsDown(), s.endedOrEmpty)
	return s.inclusive(to)
}

func (s stand) rest() (api.Land, api.Errno) {
	to, ok := s.kth(s.seamsUp(), s.endedHere)
	if !ok {
		to = max(lastPlace(s.text, lastLine(s.text)), s.at)
	}
	return s.inclusive(to)
}

// kth tells the place that the count asks for among those that a pick finds at seams; 0, if there are not so many.
func (s stand) kth(seams iter.Seq2[side, side], pick func(left, right side) (int, bool)) (int, bool) {
	at, met := pickUpto(s.times(), seams, pick)
	if met < s.times() {
		return 0, false
	}
	return at, true
}

// pickUpto goes on to the k-th place that a pick finds at seams, or to the last one, and tells it and how many there were.
func pickUpto(k int, seams iter.Seq2[side, side], pick func(left, right side) (int, bool)) (at, met int) {
	for left, right := range seams {
		place, ok := pick(left, right)
		if !ok {
			continue
		}
		at, met = place, met+1
		if met == k {
			break
		}
	}
	return at, met
}

// broken is the kind of a break, beside glyph's kinds of a cluster.
const broken = 3

// side is one of the two cells that meet at a seam: where it begins, and its kind.
type side struct{ at, kind int }

func (s stand) side(c cells.Cell) side {
	if c.IsBreak() {
		return side{at: c.At, kind: broken}
	}
	kind := glyph.Word(c.Atom)
	if s.big && kind == glyph.Sign {
		kind = glyph.Letter
	}
	return side{at: c.At, kind: kind}
}

// seamsUp goes through the seams above the place. The text's end is none of them: a motion that finds too little goes there anyway.
func (s stand) seamsUp() iter.Seq2[side, side] {
	return func(yield func(left, right side) bool) {
		var left side
		for c := range cells.Up(s.text, s.at) {
			right := s.side(c)
			if c.At > s.at && !yield(left, right) {
				return
			}
			left = right
		}
	}
}

// seamsDown goes through the seams from the place itself downward. The text's beginning is none of them: a motion that finds too little goes there anyway.
func (s stand) seamsDown() iter.Seq2[side, side] {
	return func(yield func(left, right side) bool) {
		right := s.sideHere()
		for c := range cells.Down(s.text, s.at) {
			left := s.side(c)
			if !yield(left, right) {
				return
			}
			right = left
		}
	}
}

// sideHere tells the cell that begins at the place. The text's end ends a word as a break does.
func (s stand) sideHere() side {
	for c := range cells.Up(s.text, s.at) {
		return s.side(c)
	}
	return side{at: s.at, kind: broken}
}

// isWord tells whether a cell is of a word.
func (s side) isWord() bool { return s.kind == glyph.Sign || s.kind == glyph.Letter }

// isEmptyLine tells whether an empty line stands behind a seam.
func isEmptyLine(left, right side) bool { return left.kind == broken && right.kind == broken }

// begun picks where a word begins, but at the place itself.
func (s stand) begun(left, right side) (int, bool) {
	begins := right.isWord() && left.kind != right.kind || isEmptyLine(left, right)
	return right.at, begins && right.at != s.at
}

// endedHere picks where a word ends, empty lines left out.
func (s stand) endedHere(left, right side) (int, bool) {
	return left.at, left.isWord() && left.kind != right.kind
}

// ended picks the same, but not at the place itself.
func (s stand) ended(left, right side) (int, bool) {
	at, ok := s.endedHere(left, right)
	return at, ok && at != s.at
}

// endedOrEmpty picks the same, and empty lines too.
func (s stand) endedOrEmpty(left, right side) (int, bool) {
	if isEmptyLine(left, right) && right.at != s.at {
		return right.at, true
	}
	return s.ended(left, right)
}
