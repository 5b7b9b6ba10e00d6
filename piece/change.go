package piece

import (
	"copyist/api"
	"copyist/codec"
)

// near bounds the atoms between two edits that are done in one go. What lies between edits further apart is left alone, so that states of the text share it.
const near = 16 * maxPiece

// Change does all edits, or none.
func (t *Text) Change(edits []api.Edit) api.Errno {
	if err := t.check(edits); err != api.OK {
		return err
	}
	pieces := t.pieces
	for end := len(edits); end > 0; {
		start := end - 1
		for start > 0 && edits[start].From-edits[start-1].To <= near {
			start--
		}
		pieces = t.rewrite(pieces, edits[start:end])
		end = start
	}
	if pieces.Sum().size > t.limit {
		return api.ErrFull
	}
	t.pieces = pieces
	return api.OK
}

// check tells the first reason to refuse edits that is to be seen ahead of doing them.
func (t *Text) check(edits []api.Edit) api.Errno {
	if len(edits) > api.MaxEdits {
		return api.ErrLong
	}
	least := 0
	for _, e := range edits {
		if e.From < least || e.To < e.From || e.To > t.Len() {
			return api.ErrRange
		}
		least = e.To
	}
	return t.checkPuts(edits)
}

// checkPuts refuses what is put for itself: more of it than the whole text may have needs no doing.
func (t *Text) checkPuts(edits []api.Edit) api.Errno {
	total := 0
	for _, e := range edits {
		for _, atom := range e.Put {
			size := codec.Size(t.enc, atom)
			if size == 0 {
				return api.ErrFit
			}
			total += size
		}
	}
	if total > t.limit {
		return api.ErrFull
	}
	return api.OK
}

// rewrite does edits that lie near one another. The pieces of their neighbours are made anew with them, since they may become one with what is put.
func (t *Text) rewrite(pieces sequence, edits []api.Edit) sequence {
	first, last := edits[0].From, edits[len(edits)-1].To
	from := max(pieces.Find(byAtoms, first)-1, 0)
	to := min(pieces.Find(byAtoms, last+1), pieces.Size())
	w := writer{enc: t.enc, loaded: t.loaded}
	for p := range pieces.Items(from) {
		if len(w.old) == to-from {
			break
		}
		w.old = append(w.old, p)
	}
	at := pieces.Upto(from).atoms
	for _, e := range edits {
		w.keep(e.From - at)
		w.drop(e.To - e.From)
		w.put(e.Put)
		at = e.To
	}
	for _, p := range w.old {
		w.add(p)
	}
	next, _ := pieces.Replace(from, to, w.made...)
	return next
}

// writer goes through old pieces and makes new ones.
type writer struct {
	enc    int
	loaded []byte
	old    []piece // those to come; the first may be what is left of one
	made   []piece
}

// next takes the first old piece away, or its first n atoms, if it has more.
func (w *writer) next(n int) piece {
	p := w.old[0]
	if p.sum.atoms <= n {
		w.old = w.old[1:]
		return p
	}
	head, rest := p.split(w.enc, n)
	w.old[0] = rest
	return head
}

func (w *writer) keep(n int) {
	for n > 0 {
		p := w.next(n)
		w.add(p)
		n -= p.sum.atoms
	}
}

func (w *writer) drop(n int) {
	for n > 0 {
		n -= w.next(n).sum.atoms
	}
}

// put lays new atoms behind what is made. Each piece has memory of its own, so that a small rest of what was put does not keep all of it.
func (w *writer) put(atoms []int) {
	b, _, _ := codec.Encode(w.enc, atoms)
	for _, p := range cut(w.enc, atoms, b) {
		w.add(piece{bytes: copyOf(p.bytes), place: added, sum: p.sum})
	}
}

// add lays a piece behind what is made, in one with the last piece where it may be: so text that is typed atom by atom does not lie in as many pieces.
func (w *writer) add(p piece) {
	if n := len(w.made); n > 0 {
		if one, ok := w.unite(w.made[n-1], p); ok {
			w.made[n-1] = one
			return
		}
	}
	w.made = append(w.made, p)
}

func (w *writer) unite(p, q piece) (piece, bool) {
	end := p.place + p.sum.size + q.sum.size
	switch {
	case p.sum.size+q.sum.size > maxPiece:
		return piece{}, false
	case p.place == added && q.place == added:
		return glue(w.enc, p, q)
	case p.place != added && q.place == p.place+p.sum.size:
		return piece{bytes: w.loaded[p.place:end:end], place: p.place, sum: p.sum.Add(q.sum)}, true
	}
	return piece{}, false
}
