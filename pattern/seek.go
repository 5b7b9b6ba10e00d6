package pattern

import "copyist/glyph"

// seeker seeks a pattern's ways in a line, the best first. A way that has failed from some step at some offset is not gone again, wherever it began.
type seeker struct {
	*program
	line
	gone  []uint64 // by offset and meeting point: ways that have been there
	faces []face   // of the atoms at hand, if any has been asked for
	left  []spot   // where other ways go on, the best last
	marks []note   // of the way that is gone
}

// spot is where a way is.
type spot struct {
	step, at int
	moved    int // of the things around that must not be taken empty: how many, from the outermost on, have taken something
	marks    int // how many marks it has set
}

// note is a place in a match and what is to stand there.
type note struct{ place, at int }

// face is what is known of an atom of the line.
type face struct {
	known        bool
	lower, upper int
	plain        kind // the kinds of the atom
	kinds        kind // whatever the case, if that is asked for
}

func (p *program) seeker(atoms []int) *seeker {
	k := &seeker{program: p}
	k.turnTo(whole(atoms))
	return k
}

// turnTo goes on to another line.
func (k *seeker) turnTo(l line) {
	k.line = l
	k.gone = cleared(k.gone, ((l.size+1)*k.meets+63)/64)
	k.faces = k.faces[:0]
}

// cleared gives a list of so many zeros, in the memory of another one if that will do.
func cleared(list []uint64, size int) []uint64 {
	if cap(list) < size {
		return make([]uint64, size)
	}
	list = list[:size]
	clear(list)
	return list
}

// next tells the first match that begins at an offset or behind it.
func (k *seeker) next(at int) ([20]int, bool) {
	for ; at <= k.size; at++ {
		if end, ok := k.from(at); ok {
			return k.match(at, end), true
		}
	}
	return [20]int{}, false
}

// match tells the way that was found last.
func (k *seeker) match(from, to int) [20]int {
	var match [20]int
	for i := range match {
		match[i] = -1
	}
	match[0], match[1] = from, to
	for _, m := range k.marks {
		match[m.place] = m.at
	}
	return match
}

// from tells where the first way from an offset ends.
func (k *seeker) from(at int) (int, bool) {
	k.left = append(k.left[:0], spot{step: k.first, at: at})
ways:
	for len(k.left) > 0 {
		now := k.fallBack()
		for {
			s := &k.steps[now.step]
			if s.meet >= 0 && k.wasHere(now.at, s.meet+now.moved) {
				continue ways
			}
			switch s.act {
			case accept:
				return now.at, true
			case fork:
				k.left = append(k.left, spot{s.other, now.at, now.moved, len(k.marks)})
			case take:
				if now.at == k.size || !k.takes(s.set, now.at) {
					continue ways
				}
				now.at, now.moved = now.at+1, s.depth
			case watch:
				if !k.holds(edge(s.arg), now.at) {
					continue ways
				}
			case mark:
				k.marks = append(k.marks, note{s.arg, now.at})
			case leave:
				if now.moved < s.depth {
					continue ways
				}
				now.moved = s.depth - 1
			}
			now.step = s.next
		}
	}
	return 0, false
}

// fallBack goes back to the best of the ways that are left.
func (k *seeker) fallBack() spot {
	last := len(k.left) - 1
	back := k.left[last]
	k.left, k.marks = k.left[:last], k.marks[:back.marks]
	return back
}

// wasHere tells whether a way has been at a meeting point, and keeps that one is there now.
func (k *seeker) wasHere(at, meet int) bool {
	place := at*k.meets + meet
	bit := uint64(1) << (place % 64)
	was := k.gone[place/64]&bit != 0
	k.gone[place/64] |= bit
	return was
}

// forget lets ways be gone again from an offset: those of a match that was found have not failed.
func (k *seeker) forget(at int) {
	for place := at * k.meets; place < (at+1)*k.meets; place++ {
		k.gone[place/64] &^= 1 << (place % 64)
	}
}

// takes tells whether a single takes the atom at an offset.
func (k *seeker) takes(s *set, at int) bool {
	if s.has(k.atom(at)) {
		return !s.not
	}
	if s.kinds == 0 && !k.ignore {
		return s.not
	}
	f := k.face(at)
	in := f.kinds&s.kinds != 0 || s.has(f.lower) || s.has(f.upper)
	return in != s.not
}

// holds tells whether an edge is at an offset.
func (k *seeker) holds(e edge, at int) bool {
	switch e {
	case lineBegin:
		return at == 0
	case lineEnd:
		return at == k.size
	case wordBegin:
		return k.isWord(at) && !k.isWord(at-1)
	}
	return k.isWord(at-1) && !k.isWord(at)
}

func (k *seeker) isWord(at int) bool {
	return 0 <= at && at < k.size && k.face(at).plain&word != 0
}

// face looks at an atom once, however many steps ask for it.
func (k *seeker) face(at int) *face {
	atom := k.atom(at)
	if more := len(k.atoms) - len(k.faces); more > 0 {
		k.faces = append(k.faces, make([]face, more)...)
	}
	f := &k.faces[at-k.low]
	if !f.known {
		*f = k.faceOf(atom)
	}
	return f
}

// atom tells the atom at an offset of the line.
func (k *seeker) atom(at int) int {
	if at < k.low {
		// The faces that are known stand with their atoms no more.
		k.faces = k.faces[:0]
		k.readDown(at)
	} else if at >= k.low+len(k.atoms) {
		k.readUp(at)
	}
	return k.atoms[at-k.low]
}

func (k *seeker) faceOf(atom int) face {
	plain := kindsOf(atom, k.asked)
	if !k.ignore {
		return face{true, atom, atom, plain, plain}
	}
	lower, upper := glyph.Lower(atom), glyph.Upper(atom)
	return face{true, lower, upper, plain, plain | kindsOf(lower, k.asked) | kindsOf(upper, k.asked)}
}
