package motion

import (
	"copyist/api"
	"copyist/cells"
	"copyist/lines"
	"copyist/piece"
)

// Between tells the span from one offset to another, whichever comes first, by the kind of a landing.
func Between(t *piece.Text, a, b int, kind int) (api.Span, api.Errno) {
	a, b = Clamp(t, a, true), Clamp(t, b, true)
	lo, hi := min(a, b), max(a, b)
	switch kind {
	case api.Exclusive:
		return api.Span{From: lo, To: endBelow(t, lo, hi), Kind: api.ByChars}, api.OK
	case api.Inclusive:
		return api.Span{From: lo, To: endBehind(t, hi), Kind: api.ByChars}, api.OK
	case api.Linewise:
		return api.Span{From: lineOrLast(t, lo).From, To: lineOrLast(t, hi).Next, Kind: api.ByLines}, api.OK
	}
	return api.Span{}, api.ErrArg
}

// endBelow tells where a span ends that does not take what begins at hi: ahead of the break, if that is a line's beginning and the span comes from an earlier line.
func endBelow(t *piece.Text, lo, hi int) int {
	number := lines.Of(t, hi)
	if lines.Of(t, lo) < number && hi == lineAt(t, number).From {
		return lineAt(t, number-1).To
	}
	return hi
}

// endBehind tells where a span ends that takes the cluster that begins at hi, if one does.
func endBehind(t *piece.Text, hi int) int {
	for c := range cells.Within(cells.Up(t, hi)) {
		return c.End
	}
	return hi
}

// Reach tells the span that an operator with one of these motions works on.
func Reach(t *piece.Text, at int, m api.Move) (api.Span, api.Errno) {
	if m.Kind == api.MLines {
		m.Kind = api.MHere
	}
	at = Clamp(t, at, false)
	land, err := travel(t, at, m)
	if err != api.OK {
		return api.Span{}, err
	}
	if m.Kind == api.MWord || m.Kind == api.MBigWord {
		return wordReach(t, at, land.At, m)
	}
	return Between(t, at, land.At, land.Kind)
}

// travel goes where an operator's motion goes, by the call that knows it.
func travel(t *piece.Text, at int, m api.Move) (api.Land, api.Errno) {
	switch {
	case charWays().has(m.Kind):
		return charWays()[m.Kind](blindly(newStand(t, at, m, true)))
	case rowWays().has(m.Kind):
		return rowWays()[m.Kind](blindly(newStand(t, at, m, false))) // of the line that it leads to all is taken, whatever the column
	case wordWays().has(m.Kind):
		return wordWays()[m.Kind](blindly(newWordStand(t, at, m, true)))
	case paraWays().has(m.Kind):
		return paraWays()[m.Kind](blindly(newStand(t, at, m, false)))
	}
	return api.Land{}, api.ErrArg
}

func blindly(s stand) stand {
	s.blind = true
	return s
}

// wordReach tells the span of a motion to a word's beginning. The last word that is taken does not take its line's break with it.
func wordReach(t *piece.Text, at, to int, m api.Move) (api.Span, api.Errno) {
	number := lines.Of(t, lastTaken(newWordStand(t, at, m, true)))
	if lines.Of(t, to) > number {
		return api.Span{From: at, To: lineAt(t, number).To, Kind: api.ByChars}, api.OK
	}
	return Between(t, at, to, api.Exclusive)
}

// lastTaken tells where the last word begins that a motion to a word's beginning goes over.
func lastTaken(s stand) int {
	if s.times() == 1 {
		return s.at
	}
	to, met := pickUpto(s.times()-1, s.seamsUp(), s.begun)
	if met == 0 {
		return s.at
	}
	return to
}
