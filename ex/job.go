package ex

import (
	"slices"

	"copyist/api"
	"copyist/breaks"
	"copyist/lines"
	"copyist/motion"
	"copyist/operate"
	"copyist/pattern"
	"copyist/piece"
)

const lastPattern = '/' // the register that holds it

// job is a command line while it is done. What was sought and substituted last is the desk's only when all has gone well.
type job struct {
	*operate.Desk
	text    *piece.Text
	sought  []int // the last pattern
	used    bool  // it was used here
	again   api.Sub
	subbed  bool // again is of this line
	shelf   []reading
	waiting *waiting // while a global command goes through its lines
}

// reading is a pattern that was read. A global command asks for the same ones line by line.
type reading struct {
	src    []int
	ignore bool
	*pattern.Pattern
}

// stretch is lines by their numbers, both ends with them. -1: the line ahead of the first one.
type stretch struct{ first, last int }

func newJob(d *operate.Desk) *job {
	return &job{Desk: d, text: d.Book.Text(), sought: d.Find, again: d.Sub}
}

// run does all that a line says, or nothing.
func (j *job) run(x api.Ex) (api.Wish, api.Errno) {
	e, _ := entryOf(x.Verb)
	ahead := *j.Desk
	ahead.Bank = j.Bank.Copy()
	if mayChange(e.command) {
		j.Book.Begin(j.clamped(j.At))
	}
	wish, err := j.do(e.command, x)
	if err != api.OK {
		j.Book.Drop() // refused, if no group is open
		*j.Desk = ahead
		return api.Wish{}, err
	}
	j.finish()
	return wish, api.OK
}

// finish shuts the group, and leaves on the desk what was used. The register comes last: all puts have found there what was there ahead of the line.
func (j *job) finish() {
	j.Book.End(j.At) // refused, if no group is open
	if j.subbed {
		j.Sub = api.Sub{Pat: slices.Clone(j.again.Pat), Rep: slices.Clone(j.again.Rep), Flags: j.again.Flags}
	}
	if j.used {
		j.Find = slices.Clone(j.sought)
		j.Bank.Set(lastPattern, j.Find)
	}
}

// do does a command on the lines that its addresses mean.
func (j *job) do(c command, x api.Ex) (api.Wish, api.Errno) {
	s, err := j.stretch(c, x.Addrs)
	if err != api.OK {
		return api.Wish{}, err
	}
	if w, ok := c.(wishes); ok {
		return w.wish(x, s), api.OK
	}
	if d, ok := c.(deed); ok {
		return api.Wish{}, d.do(j, x, s)
	}
	return api.Wish{}, api.ErrCommand
}

// stretch tells the lines that a command works on.
func (j *job) stretch(c command, addrs []api.Addr) (stretch, api.Errno) {
	found, err := j.lines(addrs)
	if err != api.OK {
		return stretch{}, err
	}
	if len(found) == 0 {
		return j.unaddressed(c), api.OK
	}
	s := stretch{found[0], found[len(found)-1]}
	if s.first > s.last || s.first < 0 && !takesTop(c) {
		return stretch{}, api.ErrLine
	}
	return s, api.OK
}

// unaddressed tells the lines of a command ahead of which no address stands.
func (j *job) unaddressed(c command) stretch {
	if _, ok := c.(global); ok {
		return stretch{0, j.lastLine()}
	}
	here := j.here()
	return stretch{here, here}
}

// counted is so many lines from the last one on, if a count was given.
func (j *job) counted(s stretch, count int) stretch {
	if count == 0 {
		return s
	}
	return stretch{s.last, min(s.last+count-1, j.lastLine())}
}

// pattern reads a pattern, the last one in the place of an empty one. It is the last one from then on.
func (j *job) pattern(src []int, ignore bool) (*pattern.Pattern, api.Errno) {
	if len(src) == 0 {
		src = j.sought
	}
	if len(src) == 0 {
		return nil, api.ErrEmpty
	}
	p, err := j.compiled(src, ignore)
	if err == api.OK {
		j.sought, j.used = src, true
	}
	return p, err
}

func (j *job) compiled(src []int, ignore bool) (*pattern.Pattern, api.Errno) {
	for _, r := range j.shelf {
		if r.ignore == ignore && slices.Equal(r.src, src) {
			return r.Pattern, api.OK
		}
	}
	p, _, err := pattern.Compile(src, ignore)
	if err == api.OK {
		j.shelf = append(j.shelf, reading{src, ignore, p})
	}
	return p, err
}

// here is the number of the present line.
func (j *job) here() int { return lines.Of(j.text, j.clamped(j.At)) }

func (j *job) lastLine() int { return lines.Count(j.text) - 1 }

// line tells a line whose number is known to be good.
func (j *job) line(number int) api.Line {
	line, _ := lines.At(j.text, number)
	return line
}

// span is all atoms of some lines.
func (j *job) span(s stretch) api.Span {
	top := j.line(s.first)
	bottom := top
	if s.last > s.first {
		bottom = j.line(s.last)
	}
	return api.Span{From: top.From, To: bottom.Next, Kind: api.ByLines}
}

func (j *job) clamped(at int) int { return motion.Clamp(j.text, at, false) }

// firstSign tells the first sign of the line that an offset is in.
func (j *job) firstSign(at int) int {
	land, _ := motion.Rows(j.text, at, 0, api.Move{Kind: api.MHere})
	return land.At
}

// nativeBreak is the break that is typed.
func (j *job) nativeBreak() []int { return breaks.Of(breaks.Native(j.Set.Native)) }

// change does all edits at once; what waits goes with them.
func (j *job) change(edits ...api.Edit) api.Errno {
	err := j.Book.Change(edits)
	if err == api.OK && j.waiting != nil {
		j.waiting.follow(edits)
	}
	return err
}

// within lets the desk work on the atoms of a span. What waits among them is watched by the book; what waits behind them goes with the text's end.
func (j *job) within(s api.Span, work func() api.Errno) api.Errno {
	if j.waiting == nil {
		return work()
	}
	size := j.text.Len()
	j.Book.Watch(j.waiting.among(s.From, s.To))
	err := work()
	if err == api.OK {
		j.waiting.settle(s.From, s.To, j.Book.Watched(), j.text.Len()-size)
	}
	return err
}
