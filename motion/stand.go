package motion

import (
	"copyist/api"
	"copyist/lines"
	"copyist/piece"
)

// stand is where a motion goes out from, and how.
type stand struct {
	text   *piece.Text
	at     int
	number int // of its line
	line   api.Line
	past   bool
	big    bool
	count  int // 0: there is none
	arg    int
	goal   int
	blind  bool // nobody asks for the landing's goal
}

func newStand(t *piece.Text, at int, m api.Move, past bool) stand {
	at = Clamp(t, at, past)
	number := lines.Of(t, at)
	return stand{
		text:   t,
		at:     at,
		number: number,
		line:   lineAt(t, number),
		past:   past,
		count:  min(max(m.Count, 0), api.MaxCount),
		arg:    m.Arg,
	}
}

// times is the count, or 1 without one.
func (s stand) times() int { return max(s.count, 1) }

// way is what a motion does.
type way func(stand) (api.Land, api.Errno)

// ways is a table from a motion's number to what it does.
type ways []way

func (w ways) has(kind int) bool { return 0 <= kind && kind < len(w) && w[kind] != nil }

func (s stand) exclusive(at int) (api.Land, api.Errno) { return s.land(at, api.Exclusive) }

func (s stand) inclusive(at int) (api.Land, api.Errno) { return s.land(at, api.Inclusive) }

func (s stand) land(at, kind int) (api.Land, api.Errno) {
	land := api.Land{At: at, Kind: kind}
	if !s.blind { // it takes the longer the further the landing is in its line
		land.Goal = Column(s.text, at)
	}
	return land, api.OK
}

func nowhere() (api.Land, api.Errno) { return api.Land{}, api.ErrMove }
