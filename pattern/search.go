package pattern

import (
	"iter"
	"slices"

	"copyist/api"
	"copyist/lines"
	"copyist/piece"
)

// window is how many atoms of a text are read at a time, at least: so a match that is near costs little.
const window = 1024

// Search tells the next match ahead of or behind an offset of a text.
func (p *Pattern) Search(t *piece.Text, at int, back bool, wrap bool) (api.Span, api.Errno) {
	n := t.Len()
	at = min(max(at, -1), n+1)
	near, far := span{at + 1, n}, span{0, min(at, n)}
	if back {
		near, far = span{0, at - 1}, span{max(at, 0), n}
	}
	found, ok := p.search(t, near, back)
	if !ok && wrap {
		found, ok = p.search(t, far, back)
	}
	if !ok {
		return api.Span{}, api.ErrMatch
	}
	return found, api.OK
}

// search tells the match at the least, or back the greatest, place among some offsets.
func (p *Pattern) search(t *piece.Text, among span, back bool) (api.Span, bool) {
	k := p.seeker(nil)
	for begin, l := range contents(t, among, back) {
		k.turnTo(l)
		low, high := max(among.from-begin, 0), min(among.to-begin, l.size)
		for i := range high - low + 1 {
			at := low + i
			if back {
				at = high - i
			}
			if end, ok := k.from(at); ok {
				return api.Span{From: begin + at, To: begin + end, Kind: api.ByChars}, true
			}
		}
	}
	return api.Span{}, false
}

// contents goes through the lines that some offsets are in, upwards or back: where each begins, and what it holds.
func contents(t *piece.Text, among span, back bool) iter.Seq2[int, line] {
	return func(yield func(int, line) bool) {
		for s := range sheets(t, among, back) {
			if isLong(s) {
				if !yield(s.From, lineIn(t, s, nearest(s, among, back))) {
					return
				}
				continue
			}
			atoms := t.Atoms(s.From, s.Next)
			all := split(atoms)
			if back {
				slices.Reverse(all)
			}
			for _, l := range all {
				if !yield(s.From+l.from, whole(atoms[l.from:l.to])) {
					return
				}
			}
		}
	}
}

// nearest tells the offset of a line at which a search in it begins.
func nearest(l api.Line, among span, back bool) int {
	if back {
		return min(among.to, l.To) - l.From
	}
	return max(among.from, l.From) - l.From
}

// isLong tells whether a line is so long that it is not read at once.
func isLong(l api.Line) bool { return l.To-l.From > 4*window }

// sheets goes through the same lines, many at a time, as one line from the beginning of the first to the end of the last; but a long one stands alone.
func sheets(t *piece.Text, among span, back bool) iter.Seq[api.Line] {
	return func(yield func(api.Line) bool) {
		for low, high := among.from, among.to; low <= high; {
			s := sheetUp(t, low)
			if back {
				s = sheetDown(t, high)
			}
			isTail := s.From == s.Next && s.Next > 0 // nothing is sought there
			if !isTail && !yield(s) || !back && s.Next == t.Len() {
				return
			}
			if back {
				high = s.From - 1
			} else {
				low = s.Next
			}
		}
	}
}

// sheetUp is the lines from the one of an offset on.
func sheetUp(t *piece.Text, at int) api.Line {
	first, last := lineOf(t, at), lineOf(t, at+window)
	switch {
	case isLong(first) || first == last:
		return first
	case isLong(last):
		return sheet(first.From, last.From)
	}
	return sheet(first.From, last.Next)
}

// sheetDown is the lines up to the one of an offset.
func sheetDown(t *piece.Text, at int) api.Line {
	first, last := lineOf(t, at-window), lineOf(t, at)
	switch {
	case isLong(last) || first == last:
		return last
	case isLong(first):
		return sheet(first.Next, last.Next)
	}
	return sheet(first.From, last.Next)
}

// sheet is several lines, none of them long; what its content would be is not asked.
func sheet(from, next int) api.Line { return api.Line{From: from, To: from, Next: next} }

// lineOf tells the line that an offset is in, the tail too.
func lineOf(t *piece.Text, at int) api.Line {
	line, _ := lines.At(t, lines.Of(t, at))
	return line
}

// split tells the contents of the lines of a sheet.
func split(atoms []int) []span {
	var all []span
	from := 0
	for at := 0; at < len(atoms); at++ {
		switch atoms[at] {
		case carriage:
			all = append(all, span{from, at})
			if at+1 < len(atoms) && atoms[at+1] == lineFeed {
				at++
			}
			from = at + 1
		case lineFeed:
			all = append(all, span{from, at})
			from = at + 1
		}
	}
	if from < len(atoms) || len(atoms) == 0 {
		all = append(all, span{from, len(atoms)})
	}
	return all
}
