package operate

import "copyist/breaks"

const (
	tab      = 9
	lineFeed = 10
	blank    = 32
	closing  = ')'
)

// native is the kind of break that is typed.
func (d *Desk) native() int { return breaks.Native(d.Set.Native) }

func (d *Desk) nativeBreak() []int { return breaks.Of(d.native()) }

// lineEnd is a typed line end with these atoms ahead of it and behind it.
func (d *Desk) lineEnd(ahead, behind []int) []int { return breaks.Typed(d.native(), ahead, behind) }

func beginsWith(atoms []int, atom int) bool { return len(atoms) > 0 && atoms[0] == atom }
