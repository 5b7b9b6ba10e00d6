package motion

import (
	"copyist/api"
	"copyist/lines"
	"copyist/piece"
)

// Rows is j, k, +, -, _, G, gg and % with a count.
func Rows(t *piece.Text, at int, goal int, m api.Move) (api.Land, api.Errno) {
	w := rowWays()
	if !w.has(m.Kind) {
		return api.Land{}, api.ErrArg
	}
	s := newStand(t, at, m, false)
	s.goal = max(goal, 0)
	return w[m.Kind](s)
}

func rowWays() ways {
	return ways{
		api.MDown:    stand.down,
		api.MUp:      stand.up,
		api.MNextRow: stand.nextRow,
		api.MPrevRow: stand.prevRow,
		api.MHere:    stand.here,
		api.MGoto:    stand.goTo,
		api.MTopRow:  stand.topRow,
		api.MPercent: stand.percent,
	}
}

func (s stand) down() (api.Land, api.Errno) {
	if s.number == s.last() {
		return nowhere()
	}
	return s.toGoal(s.number + s.times())
}

func (s stand) up() (api.Land, api.Errno) {
	if s.number == 0 {
		return nowhere()
	}
	return s.toGoal(s.number - s.times())
}

func (s stand) nextRow() (api.Land, api.Errno) {
	if s.number == s.last() {
		return nowhere()
	}
	return s.toSign(s.number + s.times())
}

func (s stand) prevRow() (api.Land, api.Errno) {
	if s.number == 0 {
		return nowhere()
	}
	return s.toSign(s.number - s.times())
}

func (s stand) here() (api.Land, api.Errno) { return s.toSign(s.number + s.times() - 1) }

func (s stand) goTo() (api.Land, api.Errno) {
	if s.count == 0 {
		return s.toSign(s.last())
	}
	return s.toSign(s.count - 1)
}

func (s stand) topRow() (api.Land, api.Errno) { return s.toSign(s.times() - 1) }

func (s stand) percent() (api.Land, api.Errno) {
	if s.count == 0 || s.count > 100 {
		return nowhere()
	}
	return s.toSign((s.count*lines.Count(s.text)+99)/100 - 1)
}

// last is the number of the last line.
func (s stand) last() int { return lines.Count(s.text) - 1 }

// toGoal goes to the goal's column of a line; of the first or the last one, where there is none with that number.
func (s stand) toGoal(number int) (api.Land, api.Errno) {
	at := Place(s.text, number, s.goal, false)
	return api.Land{At: at, Kind: api.Linewise, Goal: s.goal}, api.OK
}

// toSign goes to the first sign of a line; of the first or the last one, where there is none with that number.
func (s stand) toSign(number int) (api.Land, api.Errno) {
	line := lineAt(s.text, min(max(number, 0), s.last()))
	return s.land(firstSign(s.text, line), api.Linewise)
}
