package modal_test

import (
	"slices"
	"strconv"

	"copyist/api"
	"copyist/cluster"
	"copyist/glyph"
	"copyist/keys"
	"copyist/lines"
	"copyist/motion"
	"copyist/object"
	"copyist/operate"
	"copyist/pattern"
	"copyist/piece"
	"copyist/view"
)

// plain is the chapter read plainly: each sentence is done as it stands, over whole lists, however long that takes.
type plain struct {
	d      *operate.Desk
	height int
	parser *keys.Parser

	mode, anchor, goal, top int
	ctrlV                   bool
	wish                    api.Wish

	find api.Move // Kind 0: none
	back bool

	line     []int
	waits    api.Cmd
	waitMode int

	selMode  int // 0: none
	selBelow bool

	typed struct {
		cmd    api.Cmd
		pat    []int
		keys   []int
		isLast bool
		quiet  bool // played n - 1 times more
	}

	last struct {
		cmd  api.Cmd
		pat  []int
		keys []int
		has  bool
	}

	rec     int
	recKeys []int

	steps, deep, played int
}

func newPlain(enc int, b []byte, limit, native, depth, height int) (*plain, api.Errno) {
	d, err := operate.New(enc, b, limit, native, depth)
	if err != api.OK {
		return nil, err
	}
	if height < 1 || height > api.MaxRows {
		return nil, api.ErrArg
	}
	return &plain{d: d, height: height, parser: keys.New()}, api.OK
}

func (p *plain) text() *piece.Text { return p.d.Book.Text() }

func (p *plain) all() []int { return p.text().Atoms(0, p.text().Len()) }

func (p *plain) clamp(at int) int { return motion.Clamp(p.text(), at, false) }

func (p *plain) count() int { return lines.Count(p.text()) }

func (p *plain) lineNo(at int) int { return lines.Of(p.text(), at) }

func (p *plain) lineAt(number int) api.Line {
	line, err := lines.At(p.text(), number)
	if err != api.OK {
		panic("no such line")
	}
	return line
}

func (p *plain) lineOf(at int) api.Line { return p.lineAt(p.lineNo(at)) }

func (p *plain) sign(number int) int {
	land, err := motion.Rows(p.text(), p.lineAt(number).From, 0, api.Move{Kind: api.MHere})
	if err != api.OK {
		panic("no first sign")
	}
	return land.At
}

// bounds are the cluster boundaries of a line's content, as offsets of the text.
func (p *plain) bounds(line api.Line) []int {
	all := cluster.Breaks(p.all()[line.From:line.To])
	for i := range all {
		all[i] += line.From
	}
	return all
}

// below is the greatest boundary of the content of at's line that is below at; -1: there is none.
func (p *plain) below(at int) int {
	best := -1
	for _, b := range p.bounds(p.lineOf(at)) {
		if b < at {
			best = b
		}
	}
	return best
}

// above is the least boundary of the content of at's line that is above at; -1: there is none.
func (p *plain) above(at int) int {
	for _, b := range p.bounds(p.lineOf(at)) {
		if b > at {
			return b
		}
	}
	return -1
}

func (p *plain) aim() { p.goal = motion.Column(p.text(), p.d.At) }

func (p *plain) selecting() bool { return p.mode == api.Visual || p.mode == api.VisualLine }

func isIn(x int, list ...int) bool { return slices.Contains(list, x) }

func scalar(k int) bool { return k >= 0 && k <= 0xD7FF || k >= 0xE000 && k <= 0x10FFFF }

func plainTyped(k int) bool { return k == 9 || scalar(k) && k >= 32 && k != 127 }

func most(n int) int { return max(n, 1) }

func (p *plain) See() api.Sight {
	n := p.text().Len()
	line := p.lineOf(p.d.At)
	s := api.Sight{
		Text: p.all(), Tags: p.text().Tags(0, n), At: p.d.At, Mode: p.mode, Anchor: -1, Pending: p.parser.Pending(), Line: slices.Clone(p.line),
		Dirty: p.d.Book.Dirty(), Top: p.top, Cell: view.Cell(p.all()[line.From:line.To], p.d.At-line.From),
		Percent: view.Percent(p.lineNo(p.d.At), p.count()), Record: p.rec, Set: p.d.Set,
	}
	if s.Record >= 'A' && s.Record <= 'Z' {
		s.Record += 32
	}
	if p.selecting() {
		s.Anchor = p.anchor
	}
	if p.ctrlV {
		s.Pending = []int{22}
	}
	return s
}

func (p *plain) Key(k int) (api.Wish, api.Errno) {
	if p.rec != 0 && !p.endsRecording(k) && scalar(k) && k != 10 && len(p.recKeys) < api.MaxReg {
		p.recKeys = append(p.recKeys, k)
	}
	p.steps, p.deep, p.wish = 0, 0, api.Wish{}
	if err := p.give(k); err != api.OK {
		return api.Wish{}, err
	}
	return p.wish, api.OK
}

func (p *plain) give(k int) api.Errno {
	var err api.Errno
	switch p.mode {
	case api.Insert, api.Replace:
		err = p.typingKey(k)
	case api.Command, api.Search, api.SearchBack:
		err = p.lineKey(k)
	default:
		err = p.commandKey(k)
	}
	p.follow()
	return err
}

func (p *plain) follow() {
	number := p.lineNo(p.d.At)
	if number == p.count() {
		number-- // the tail
	}
	p.top = view.Follow(p.top, p.height, p.count(), number)
}

func (p *plain) endsRecording(k int) bool {
	return p.rec != 0 && k == 'q' && isIn(p.mode, api.Normal, api.Visual, api.VisualLine) && len(p.parser.Pending()) == 0
}

func (p *plain) commandKey(k int) api.Errno {
	if p.endsRecording(k) {
		return p.endRecording()
	}
	none := len(p.parser.Pending()) == 0
	c, say := p.parser.Feed(p.mode, k)
	switch say {
	case api.KeyBad:
		return api.ErrKey
	case api.KeyStop:
		if p.selecting() && none {
			p.endSelection()
		}
		return api.OK
	case api.KeyMore:
		return api.OK
	}
	if isIn(c.Move, api.MSearch, api.MSearchBack) {
		p.waits, p.waitMode, p.line = c, p.mode, nil
		p.mode = api.Search
		if c.Move == api.MSearchBack {
			p.mode = api.SearchBack
		}
		return api.OK
	}
	return p.done(c)
}

// done does a command of keys, and sees to the last change.
func (p *plain) done(c api.Cmd) api.Errno {
	isChange := p.mode == api.Normal && isIn(c.Verb, api.VDelete, api.VChange, api.VUpper, api.VLower, api.VFlip, api.VRight, api.VLeft, api.VOver, api.VPut, api.VPutUp, api.VJoin, api.VJoinBare, api.VFlipChar, api.VInsert, api.VAppend, api.VInsertFirst, api.VAppendEnd, api.VOpen, api.VOpenUp, api.VReplace)
	err := p.do(c)
	if err != api.OK || !isChange {
		return err
	}
	var pat []int
	if isIn(c.Move, api.MSearch, api.MSearchBack) {
		pat = slices.Clone(p.d.Find)
	}
	if isIn(p.mode, api.Insert, api.Replace) {
		p.typed.isLast, p.typed.pat = true, pat
		return api.OK
	}
	p.last.cmd, p.last.pat, p.last.keys, p.last.has = c, pat, nil, true
	return api.OK
}

func (p *plain) do(c api.Cmd) api.Errno {
	if p.selecting() {
		return p.doSelected(c)
	}
	return p.doNormal(c)
}

// aimed sets the goal column behind what went well.
func (p *plain) aimed(err api.Errno) api.Errno {
	if err == api.OK {
		p.aim()
	}
	return err
}

func (p *plain) doNormal(c api.Cmd) api.Errno {
	n := most(c.Count)
	switch c.Verb {
	case api.VMove:
		return p.move(c)
	case api.VDelete, api.VChange, api.VYank, api.VUpper, api.VLower, api.VFlip, api.VRight, api.VLeft:
		s, err := p.span(c)
		if err != api.OK {
			return err
		}
		return p.aimed(p.operator(c, s, 1))
	case api.VOver:
		if !plainTyped(c.Arg) && c.Arg != 13 {
			return api.ErrKey
		}
		arg := c.Arg
		if arg == 13 {
			arg = 10
		}
		return p.aimed(p.d.Over(n, arg))
	case api.VPut:
		return p.aimed(p.d.Put(c.Reg, false, n))
	case api.VPutUp:
		return p.aimed(p.d.Put(c.Reg, true, n))
	case api.VJoin, api.VJoinBare:
		first := p.lineNo(p.d.At)
		last := first + max(n, 2) - 1
		if last > p.count()-1 {
			last = p.count() - 1
		}
		if first == last {
			return api.ErrNothing
		}
		return p.aimed(p.d.Join(first, last, c.Verb == api.VJoinBare))
	case api.VFlipChar:
		return p.aimed(p.flipChar(n))
	case api.VUndo:
		return p.aimed(p.travel(n, p.d.Book.Undo))
	case api.VRedo:
		return p.aimed(p.travel(n, p.d.Book.Redo))
	case api.VSubAgain:
		return p.run([]int{'&'})
	case api.VSaveQuit, api.VQuit:
		if p.deep > 0 {
			return api.ErrNested
		}
		p.wish = api.Wish{Verb: api.XExit}
		if c.Verb == api.VQuit {
			p.wish = api.Wish{Verb: api.XQuit, Force: true}
		}
		return api.OK
	case api.VVisual:
		p.mode, p.anchor = api.Visual, p.d.At
		return api.OK
	case api.VVisualLine:
		p.mode, p.anchor = api.VisualLine, p.d.At
		return api.OK
	case api.VReselect:
		return p.reselect()
	case api.VCommand:
		p.mode, p.waitMode, p.line = api.Command, api.Normal, nil
		if c.Count > 0 {
			p.line = spell(".")
			if n > 1 {
				p.line = spell(".,.+" + strconv.Itoa(n-1))
			}
		}
		return api.OK
	case api.VDot:
		return p.dot(c)
	case api.VInsert, api.VAppend, api.VInsertFirst, api.VAppendEnd, api.VOpen, api.VOpenUp, api.VReplace:
		return p.beginTyping(c)
	}
	return p.doBoth(c)
}

// doBoth does the commands that go the same way in every mode.
func (p *plain) doBoth(c api.Cmd) api.Errno {
	switch c.Verb {
	case api.VMark:
		name := c.Arg
		if name == 96 {
			name = 39
		}
		return p.d.Book.SetMark(name, p.d.At)
	case api.VRecord:
		if !(c.Arg >= 'a' && c.Arg <= 'z' || c.Arg >= 'A' && c.Arg <= 'Z') {
			return api.ErrReg
		}
		p.rec, p.recKeys = c.Arg, nil
		return api.OK
	case api.VPlay:
		return p.play(c)
	}
	return p.scroll(c)
}

// landing is P1805 but for 8; goal tells whether the landing's own goal holds.
func (p *plain) landing(c api.Cmd) (land api.Land, goal bool, err api.Errno) {
	t, at := p.text(), p.d.At
	m := api.Move{Kind: c.Move, Count: c.Count, Arg: c.Arg}
	n := most(c.Count)
	switch c.Move {
	case api.MAgain, api.MReverse:
		if p.find.Kind == 0 {
			return land, false, api.ErrMove
		}
		m.Kind, m.Arg = p.find.Kind, p.find.Arg
		if c.Move == api.MReverse {
			m.Kind = map[int]int{api.MFind: api.MFindBack, api.MFindBack: api.MFind, api.MTill: api.MTillBack, api.MTillBack: api.MTill}[m.Kind]
		}
		land, err = motion.Chars(t, at, m, false)
		return land, true, err
	case api.MLeft, api.MRight, api.MStart, api.MFirst, api.MEnd, api.MBar, api.MFind, api.MFindBack, api.MTill, api.MTillBack:
		land, err = motion.Chars(t, at, m, false)
		if err == api.OK && isIn(c.Move, api.MFind, api.MFindBack, api.MTill, api.MTillBack) {
			p.find = api.Move{Kind: c.Move, Arg: c.Arg}
		}
		return land, true, err
	case api.MDown, api.MUp, api.MNextRow, api.MPrevRow, api.MHere, api.MGoto, api.MTopRow, api.MPercent:
		land, err = motion.Rows(t, at, p.goal, m)
		return land, true, err
	case api.MWord, api.MBack, api.MWordEnd, api.MBackEnd, api.MBigWord, api.MBigBack, api.MBigEnd, api.MBigBackEnd:
		land, err = motion.Words(t, at, m, false)
		return land, true, err
	case api.MParaNext, api.MParaPrev, api.MMatch:
		land, err = motion.Paras(t, at, m)
		return land, true, err
	case api.MNext, api.MSearch, api.MSearchBack:
		land, err = p.next(n, p.back)
	case api.MPrev:
		land, err = p.next(n, !p.back)
	case api.MStar, api.MHash:
		land, err = p.star(n, c.Move == api.MHash)
	case api.MMark, api.MMarkLine:
		name := c.Arg
		if name == 96 {
			name = 39
		}
		mark, e := p.d.Book.Mark(name)
		if e != api.OK {
			return land, false, e
		}
		land = api.Land{At: p.clamp(mark), Kind: api.Exclusive}
		if c.Move == api.MMarkLine {
			land = api.Land{At: p.sign(p.lineNo(p.clamp(mark))), Kind: api.Linewise}
		}
	case api.MHigh, api.MMiddle, api.MLow:
		seen := []int{}
		for l := p.top; l < p.count() && l < p.top+p.height; l++ {
			seen = append(seen, l)
		}
		s := len(seen)
		line := seen[(s-1)/2]
		if c.Move == api.MHigh {
			line = seen[min(n-1, s-1)]
		}
		if c.Move == api.MLow {
			line = seen[max(s-n, 0)]
		}
		land = api.Land{At: p.sign(line), Kind: api.Linewise}
	default:
		panic("no such motion")
	}
	return land, false, err
}

func (p *plain) next(n int, back bool) (api.Land, api.Errno) {
	if len(p.d.Find) == 0 {
		return api.Land{}, api.ErrEmpty
	}
	pat, _, err := pattern.Compile(p.d.Find, p.d.Set.IgnoreCase)
	if err != api.OK {
		return api.Land{}, err
	}
	at := p.d.At
	for range n {
		s, err := pat.Search(p.text(), at, back, !p.d.Set.NoWrap)
		if err != api.OK {
			return api.Land{}, err
		}
		at = s.From
	}
	return api.Land{At: at, Kind: api.Exclusive}, api.OK
}

// sought makes a pattern the last search.
func (p *plain) sought(pat []int, back bool) api.Errno {
	if _, _, err := pattern.Compile(pat, p.d.Set.IgnoreCase); err != api.OK {
		return err
	}
	p.d.Find, p.back = slices.Clone(pat), back
	p.d.Bank.Set('/', pat)
	return api.OK
}

func (p *plain) star(n int, back bool) (api.Land, api.Errno) {
	line := p.lineOf(p.d.At)
	all := p.all()
	isLetter := func(i int) bool { return i >= line.From && i < line.To && glyph.Word(all[i]) == glyph.Letter }
	for from := line.From; from < line.To; from++ {
		if !isLetter(from) || isLetter(from-1) {
			continue
		}
		to := from
		for isLetter(to) {
			to++
		}
		if to <= p.d.At {
			continue
		}
		if err := p.sought(slices.Concat(spell(`\<`), all[from:to], spell(`\>`)), back); err != api.OK {
			return api.Land{}, err
		}
		return p.next(n, back)
	}
	return api.Land{}, api.ErrObject
}

func (p *plain) move(c api.Cmd) api.Errno {
	land, goal, err := p.landing(c)
	if err != api.OK {
		return err
	}
	was := p.d.At
	p.d.At = p.clamp(land.At)
	if goal {
		p.goal = land.Goal
	} else {
		p.aim()
	}
	if isIn(c.Move, api.MGoto, api.MTopRow, api.MPercent, api.MParaNext, api.MParaPrev, api.MMatch, api.MSearch, api.MSearchBack, api.MNext, api.MPrev, api.MStar, api.MHash, api.MMark, api.MMarkLine, api.MHigh, api.MMiddle, api.MLow) {
		p.d.Book.SetMark(39, was)
	}
	return api.OK
}

// span is P1806.
func (p *plain) span(c api.Cmd) (api.Span, api.Errno) {
	t, at := p.text(), p.d.At
	m := api.Move{Kind: c.Move, Count: c.Count, Arg: c.Arg}
	switch {
	case c.Move == api.MLines:
		first := p.lineNo(at)
		last := min(first+most(c.Count)-1, p.count()-1)
		return api.Span{From: p.lineAt(first).From, To: p.lineAt(last).Next, Kind: api.ByLines}, api.OK
	case c.Move >= api.OWord:
		return object.Take(t, at, m)
	case isIn(c.Move, api.MNext, api.MPrev, api.MStar, api.MHash, api.MMark, api.MMarkLine, api.MHigh, api.MMiddle, api.MLow, api.MSearch, api.MSearchBack):
		land, _, err := p.landing(c)
		if err != api.OK {
			return api.Span{}, err
		}
		return motion.Between(t, at, land.At, land.Kind)
	case isIn(c.Move, api.MAgain, api.MReverse):
		if p.find.Kind == 0 {
			return api.Span{}, api.ErrMove
		}
		m.Kind, m.Arg = p.find.Kind, p.find.Arg
		if c.Move == api.MReverse {
			m.Kind = map[int]int{api.MFind: api.MFindBack, api.MFindBack: api.MFind, api.MTill: api.MTillBack, api.MTillBack: api.MTill}[m.Kind]
		}
		return motion.Reach(t, at, m)
	}
	line := p.lineOf(at)
	if c.Verb == api.VChange && line.From < line.To && glyph.Word(p.all()[at]) != glyph.Blank {
		if c.Move == api.MWord {
			m.Kind = api.MRest
		}
		if c.Move == api.MBigWord {
			m.Kind = api.MBigRest
		}
	}
	s, err := motion.Reach(t, at, m)
	if err == api.OK && isIn(c.Move, api.MFind, api.MFindBack, api.MTill, api.MTillBack) {
		p.find = api.Move{Kind: c.Move, Arg: c.Arg}
	}
	return s, err
}

func (p *plain) operator(c api.Cmd, s api.Span, steps int) api.Errno {
	switch c.Verb {
	case api.VDelete:
		return p.d.Delete(c.Reg, s)
	case api.VYank:
		return p.d.Yank(c.Reg, s)
	case api.VUpper, api.VLower, api.VFlip:
		return p.d.Case(c.Verb, s)
	case api.VRight:
		return p.d.Shift(s, steps)
	case api.VLeft:
		return p.d.Shift(s, -steps)
	}
	p.d.Book.Begin(p.d.At)
	if err := p.d.Change(c.Reg, s); err != api.OK {
		p.d.Book.Drop()
		return err
	}
	p.startTyping(c)
	return api.OK
}

func (p *plain) flipChar(n int) api.Errno {
	to := p.d.At
	for range n {
		if next := p.above(to); next >= 0 {
			to = next
		}
	}
	if to == p.d.At {
		return api.ErrNothing
	}
	p.d.Book.Begin(p.d.At)
	if err := p.d.Case(api.VFlip, api.Span{From: p.d.At, To: to}); err != api.OK {
		p.d.Book.Drop()
		return err
	}
	p.d.At = p.clamp(to)
	p.d.Book.End(p.d.At)
	return api.OK
}

func (p *plain) travel(n int, step func() (int, api.Errno)) api.Errno {
	for i := range n {
		at, err := step()
		if err != api.OK && i == 0 {
			return err
		}
		if err != api.OK {
			break
		}
		p.d.At = p.clamp(at)
	}
	return api.OK
}
