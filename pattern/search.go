package pattern

import (
	"iter"
	"slices"

	"copyist/api"
	"copyist/lines"
	"copyist/piece"
)

// window is how many atoms of a text are read at a time, at least: so a match that is near costs little.
const window = 1024

// Search tells the next match ahead of or behind an offset of a text.
func (p *Pattern) Search(t *piece.Text, at int, back bool, wrap bool) (api.Span, api.Errno) {
	n := t.Len()
	at = min(max(at, -1), n+1)
	near, far := span{at + 1, n}, span{0, min(at, n)}
	if back {
		near, far = span{0, at - 1}, span{max(at, 0), n}
	}
	found, ok := p.search(t, near, back)
	if !ok && wrap {
		found, ok = p.search(t, far, back)
	}
	if !ok {
		return api.Span{}, api.ErrMatch
	}
	return found, api.OK
}

// search tells the match at the least, or back the greatest, place among some offsets.
func (p *Pattern) search(t *piece.Text, among span, back bool) (api.Span, bool) {
	k := p.seeker(nil)
	for begin, content := range contents(t, among, back) {
		k.turnTo(content)
		low, high := max(among.from-begin, 0), min(among.to-begin, len(content))
		for i := range high - low + 1 {
			at := low + i
			if back {
				at = high - i
			}
			if end, ok := k.from(at); ok {
				return api.Span{From: begin + at, To: begin + end, Kind: api.ByChars}, true
			}
		}
	}
	return api.Span{}, false
}

// contents goes through the lines that some offsets are in, upwards or back: where each begins, and its atoms.
func contents(t *piece.Text, among span, back bool) iter.Seq2[int, []int] {
	return func(yield func(int, []int) bool) {
		for begin, atoms := range sheets(t, among, back) {
			all := split(atoms)
			if back {
				slices.Reverse(all)
			}
			for _, line := range all {
				if !yield(begin+line.from, atoms[line.from:line.to]) {
					return
				}
			}
		}
	}
}

// sheets goes through the same lines, many at a time.
func sheets(t *piece.Text, among span, back bool) iter.Seq2[int, []int] {
	return func(yield func(int, []int) bool) {
		for low, high := among.from, among.to; low <= high; {
			from, next := lineOf(t, low).From, lineOf(t, low+window).Next
			if back {
				from, next = lineOf(t, high-window).From, lineOf(t, high).Next
			}
			isTail := from == next && next > 0
			if isTail || !yield(from, t.Atoms(from, next)) || !back && next == t.Len() {
				return
			}
			if back {
				high = from - 1
			} else {
				low = next
			}
		}
	}
}

// lineOf tells the line that an offset is in, the tail too.
func lineOf(t *piece.Text, at int) api.Line {
	line, _ := lines.At(t, lines.Of(t, at))
	return line
}

// split tells the contents of the lines of a sheet.
func split(atoms []int) []span {
	var all []span
	from := 0
	for at := 0; at < len(atoms); at++ {
		switch atoms[at] {
		case carriage:
			all = append(all, span{from, at})
			if at+1 < len(atoms) && atoms[at+1] == lineFeed {
				at++
			}
			from = at + 1
		case lineFeed:
			all = append(all, span{from, at})
			from = at + 1
		}
	}
	if from < len(atoms) || len(atoms) == 0 {
		all = append(all, span{from, len(atoms)})
	}
	return all
}
