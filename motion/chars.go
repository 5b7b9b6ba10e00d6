package motion

import (
	"copyist/api"
	"copyist/cells"
	"copyist/lines"
	"copyist/piece"
)

// Chars is h, l, 0, ^, $, |, f, F, t, T; past: as an operator's motion.
func Chars(t *piece.Text, at int, m api.Move, past bool) (api.Land, api.Errno) {
	w := charWays()
	if !w.has(m.Kind) {
		return api.Land{}, api.ErrArg
	}
	return w[m.Kind](newStand(t, at, m, past))
}

func charWays() ways {
	return ways{
		api.MLeft:     stand.left,
		api.MRight:    stand.right,
		api.MStart:    stand.start,
		api.MFirst:    stand.first,
		api.MEnd:      stand.end,
		api.MBar:      stand.bar,
		api.MFind:     stand.find,
		api.MTill:     stand.till,
		api.MFindBack: stand.findBack,
		api.MTillBack: stand.tillBack,
	}
}

func (s stand) left() (api.Land, api.Errno) {
	to, left := s.at, s.times()
	for c := range cells.Within(cells.Down(s.text, s.at)) {
		to = c.At
		if left--; left == 0 {
			break
		}
	}
	if to == s.at {
		return nowhere()
	}
	return s.exclusive(to)
}

func (s stand) right() (api.Land, api.Errno) {
	to, left := s.at, s.times()
	for c := range cells.Within(cells.Up(s.text, s.at)) {
		to = c.End
		if left--; left == 0 {
			break
		}
	}
	if to == s.line.To && !s.past {
		to = lastPlace(s.text, s.line)
	}
	if to == s.at {
		return nowhere()
	}
	return s.exclusive(to)
}

func (s stand) start() (api.Land, api.Errno) { return s.exclusive(s.line.From) }

func (s stand) first() (api.Land, api.Errno) { return s.exclusive(firstSign(s.text, s.line)) }

func (s stand) end() (api.Land, api.Errno) {
	last := max(lines.Count(s.text)-1, s.number) // in the tail it stays there
	line := lineAt(s.text, min(s.number+s.times()-1, last))
	return api.Land{At: lastPlace(s.text, line), Kind: api.Inclusive, Goal: api.MaxCol}, api.OK
}

func (s stand) bar() (api.Land, api.Errno) {
	return s.exclusive(place(s.text, s.line, s.times()-1, s.past))
}

func (s stand) find() (api.Land, api.Errno) {
	if _, found, ok := s.sought(); ok {
		return s.inclusive(found)
	}
	return nowhere()
}

func (s stand) till() (api.Land, api.Errno) {
	if ahead, _, ok := s.sought(); ok {
		return s.inclusive(ahead)
	}
	return nowhere()
}

// sought tells where the cluster is that is sought behind the cursor, and where the one ahead of it.
func (s stand) sought() (ahead, found int, ok bool) {
	left := s.times()
	for c := range cells.Within(cells.Up(s.text, s.at)) {
		if c.At > s.at && c.Atom == s.arg {
			if left--; left == 0 {
				return ahead, c.At, true
			}
		}
		ahead = c.At
	}
	return 0, 0, false
}

func (s stand) findBack() (api.Land, api.Errno) {
	if c, ok := s.soughtBack(); ok {
		return s.exclusive(c.At)
	}
	return nowhere()
}

func (s stand) tillBack() (api.Land, api.Errno) {
	if c, ok := s.soughtBack(); ok {
		return s.exclusive(c.End)
	}
	return nowhere()
}

func (s stand) soughtBack() (cells.Cell, bool) {
	left := s.times()
	for c := range cells.Within(cells.Down(s.text, s.at)) {
		if c.Atom == s.arg {
			if left--; left == 0 {
				return c, true
			}
		}
	}
	return cells.Cell{}, false
}
