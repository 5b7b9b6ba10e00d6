package modal_test

import (
	"slices"

	"copyist/api"
	"copyist/breaks"
	"copyist/cluster"
	"copyist/ex"
	"copyist/glyph"
	"copyist/lines"
	"copyist/motion"
	"copyist/object"
	"copyist/view"
)

func (p *plain) startTyping(c api.Cmd) {
	p.typed.cmd, p.typed.pat, p.typed.keys, p.typed.isLast, p.typed.quiet = c, nil, nil, false, false
	p.mode = api.Insert
	if c.Verb == api.VReplace {
		p.mode = api.Replace
	}
}

func (p *plain) beginTyping(c api.Cmd) api.Errno {
	at := p.d.At
	p.d.Book.Begin(at)
	line := p.lineOf(at)
	switch c.Verb {
	case api.VAppend:
		if next := p.above(at); next >= 0 {
			p.d.At = next
		}
	case api.VInsertFirst:
		p.d.At = line.To
		for _, a := range p.all()[line.From:line.To] {
			if glyph.Word(a) != glyph.Blank {
				p.d.At = p.sign(p.lineNo(at))
			}
		}
	case api.VAppendEnd:
		p.d.At = line.To
	case api.VOpen, api.VOpenUp:
		if err := p.open(c.Verb == api.VOpenUp); err != api.OK {
			p.d.Book.Drop()
			p.d.At = at
			return err
		}
	}
	p.startTyping(c)
	return api.OK
}

// open opens a line below or above the line of the cursor.
func (p *plain) open(up bool) api.Errno {
	line := p.lineOf(p.d.At)
	at := line.Next
	if up {
		at = line.From
	}
	end, _ := lines.Typed(p.text(), at, []int{10}, p.d.Set.Native)
	if err := p.d.Book.Change([]api.Edit{{From: at, To: at, Put: end}}); err != api.OK {
		return err
	}
	p.d.At = at
	if !up && line.Break == api.NoBreak {
		p.d.At = at + len(end)
	}
	return api.OK
}

// typingKey is P1809 and P1810.
func (p *plain) typingKey(k int) api.Errno {
	if p.ctrlV {
		p.ctrlV = false
		if !scalar(k) || k == 10 || k == 13 {
			return api.ErrKey
		}
		return p.note(p.typeAtom(k), 22, k)
	}
	switch {
	case k == 27:
		err := p.more()
		p.endTyping()
		return err
	case k == 22:
		p.ctrlV = true
		return api.OK
	case k == 13:
		return p.note(p.typeEnd(), k)
	case plainTyped(k):
		return p.note(p.typeAtom(k), k)
	case k == 8 || k == 127:
		if p.mode == api.Replace {
			return p.note(p.stepBack(), k)
		}
		return p.note(p.takeAhead(), k)
	case (k == 21 || k == 23) && p.mode == api.Insert:
		return p.note(p.takeMore(k), k)
	}
	return api.ErrKey
}

func (p *plain) note(err api.Errno, ks ...int) api.Errno {
	if err == api.OK && !p.typed.quiet {
		p.typed.keys = append(p.typed.keys, ks...)
	}
	return err
}

func (p *plain) typeEnd() api.Errno {
	end, _ := lines.Typed(p.text(), p.d.At, []int{10}, p.d.Set.Native)
	err := p.d.Book.Change([]api.Edit{{From: p.d.At, To: p.d.At, Put: end}})
	if err == api.OK {
		p.d.At += len(end)
	}
	return err
}

func (p *plain) typeAtom(k int) api.Errno {
	e := api.Edit{From: p.d.At, To: p.d.At, Put: []int{k}}
	if p.mode == api.Replace && p.d.At < p.lineOf(p.d.At).To {
		e.To = p.above(p.d.At)
	}
	err := p.d.Book.Change([]api.Edit{e})
	if err == api.OK {
		p.d.At++
	}
	return err
}

func (p *plain) stepBack() api.Errno {
	if p.d.At == p.lineOf(p.d.At).From {
		return api.ErrNothing
	}
	p.d.At = p.below(p.d.At)
	return api.OK
}

// cut takes away what stands from an offset up to the cursor.
func (p *plain) cut(from int) api.Errno {
	err := p.d.Book.Change([]api.Edit{{From: from, To: p.d.At}})
	if err == api.OK {
		p.d.At = from
	}
	return err
}

func (p *plain) takeAhead() api.Errno {
	at := p.d.At
	line := p.lineOf(at)
	switch {
	case at == 0:
		return api.ErrNothing
	case at == line.From:
		return p.cut(p.lineAt(p.lineNo(at) - 1).To)
	case at > line.To:
		return p.cut(at - 1)
	}
	return p.cut(p.below(at))
}

func (p *plain) takeMore(k int) api.Errno {
	at := p.d.At
	line := p.lineOf(at)
	if at == line.From || at > line.To {
		return p.takeAhead()
	}
	if k == 21 {
		return p.cut(line.From)
	}
	return p.cut(line.From + len(shortened(p.all()[line.From:at])))
}

// shortened is a list without its last blanks, and then without its last atoms of one kind.
func shortened(list []int) []int {
	for len(list) > 0 && glyph.Word(list[len(list)-1]) == glyph.Blank {
		list = list[:len(list)-1]
	}
	if len(list) == 0 {
		return list
	}
	kind := glyph.Word(list[len(list)-1])
	for len(list) > 0 && glyph.Word(list[len(list)-1]) == kind {
		list = list[:len(list)-1]
	}
	return list
}

// more plays the keys of the typing n - 1 times more.
func (p *plain) more() api.Errno {
	c := p.typed.cmd
	if c.Verb == api.VChange {
		return api.OK
	}
	p.typed.quiet = true
	for range most(c.Count) - 1 {
		if c.Verb == api.VOpen || c.Verb == api.VOpenUp {
			if err := p.open(c.Verb == api.VOpenUp); err != api.OK {
				return err
			}
		}
		if err := p.playKeys(p.typed.keys); err != api.OK {
			return err
		}
	}
	return api.OK
}

func (p *plain) endTyping() {
	if p.d.At > p.lineOf(p.d.At).From {
		p.d.At = p.below(p.d.At)
	}
	p.d.At = p.clamp(p.d.At)
	p.d.Book.End(p.d.At)
	p.mode, p.ctrlV = api.Normal, false
	var dot []int
	for _, k := range p.typed.keys {
		if k == 13 {
			dot = append(dot, 10)
		} else if !isIn(k, 8, 21, 22, 23, 127) {
			dot = append(dot, k)
		}
	}
	if len(dot) > 0 {
		p.d.Bank.Set('.', dot)
	}
	if p.typed.isLast {
		p.last.cmd, p.last.pat, p.last.keys, p.last.has = p.typed.cmd, p.typed.pat, p.typed.keys, true
	}
	p.aim()
}

// endSelection is P1813.
func (p *plain) endSelection() {
	p.d.Book.SetMark(60, min(p.anchor, p.d.At))
	p.d.Book.SetMark(62, max(p.anchor, p.d.At))
	p.selMode, p.selBelow = p.mode, p.d.At < p.anchor
	p.mode = api.Normal
}

func (p *plain) reselect() api.Errno {
	if p.selMode == 0 {
		return api.ErrNothing
	}
	low, _ := p.d.Book.Mark(60)
	high, _ := p.d.Book.Mark(62)
	p.mode = p.selMode
	if p.selBelow {
		p.d.At, p.anchor = p.clamp(low), p.clamp(high)
	} else {
		p.d.At, p.anchor = p.clamp(high), p.clamp(low)
	}
	p.aim()
	return api.OK
}

func (p *plain) doSelected(c api.Cmd) api.Errno {
	n := most(c.Count)
	switch c.Verb {
	case api.VMove:
		if c.Move >= api.OWord {
			return p.aimed(p.takeObject(c))
		}
		return p.move(c)
	case api.VVisual, api.VVisualLine:
		mode := map[int]int{api.VVisual: api.Visual, api.VVisualLine: api.VisualLine}[c.Verb]
		if p.mode == mode {
			p.endSelection()
		} else {
			p.mode = mode
		}
		return api.OK
	case api.VSwap:
		p.d.At, p.anchor = p.anchor, p.d.At
		p.aim()
		return api.OK
	case api.VMark, api.VRecord, api.VPlay, api.VPageDown, api.VPageUp, api.VHalfDown, api.VHalfUp, api.VRowDown, api.VRowUp, api.VTop, api.VMiddle, api.VBottom:
		return p.doBoth(c)
	}
	kind := api.Inclusive
	if p.mode == api.VisualLine {
		kind = api.Linewise
	}
	s, _ := motion.Between(p.text(), p.anchor, p.d.At, kind)
	first, last := p.lineNo(min(p.anchor, p.d.At)), p.lineNo(max(p.anchor, p.d.At))
	p.endSelection()
	p.d.At = min(p.anchor, p.d.At)
	switch c.Verb {
	case api.VCommand:
		p.mode, p.waitMode, p.line = api.Command, api.Normal, spell("'<,'>")
		return api.OK
	case api.VJoin, api.VJoinBare:
		if first == last {
			last++
		}
		if last == p.count() {
			return api.ErrNothing
		}
		return p.aimed(p.d.Join(first, last, c.Verb == api.VJoinBare))
	case api.VOver:
		return p.aimed(p.overSelected(c, s))
	case api.VPut, api.VPutUp:
		return p.aimed(p.putSelected(c, s, p.lineAt(last)))
	}
	return p.aimed(p.operator(c, s, n))
}

func (p *plain) takeObject(c api.Cmd) api.Errno {
	s, err := object.Take(p.text(), p.d.At, api.Move{Kind: c.Move, Count: c.Count, Arg: c.Arg})
	if err != api.OK {
		return err
	}
	if s.From == s.To {
		return api.ErrObject
	}
	at := s.To - 1
	if s.Kind == api.ByLines {
		at = p.lineOf(s.To - 1).From
		p.mode = api.VisualLine
	}
	p.anchor, p.d.At = p.clamp(s.From), p.clamp(at)
	return api.OK
}

// grouped makes one change in one group; the cursor goes to an offset, clamped.
func (p *plain) grouped(edits []api.Edit, at int) api.Errno {
	p.d.Book.Begin(p.d.At)
	if err := p.d.Book.Change(edits); err != api.OK {
		p.d.Book.Drop()
		return err
	}
	p.d.At = p.clamp(at)
	p.d.Book.End(p.d.At)
	return api.OK
}

func (p *plain) overSelected(c api.Cmd, s api.Span) api.Errno {
	if !plainTyped(c.Arg) {
		return api.ErrKey
	}
	atoms := p.all()[s.From:s.To]
	bounds := cluster.Breaks(atoms)
	var edits []api.Edit
	for i := 0; i+1 < len(bounds); i++ {
		if a := atoms[bounds[i]]; a != 10 && a != 13 {
			edits = append(edits, api.Edit{From: s.From + bounds[i], To: s.From + bounds[i+1], Put: []int{c.Arg}})
		}
	}
	if len(edits) == 0 {
		return api.ErrNothing
	}
	return p.grouped(edits, s.From)
}

func (p *plain) putSelected(c api.Cmd, s api.Span, last api.Line) api.Errno {
	r, err := p.d.Bank.Get(c.Reg)
	if err != api.OK {
		return err
	}
	native := map[int][]int{api.LF: {10}, api.CRLF: {13, 10}, api.CR: {13}}[p.d.Set.Native]
	var text []int
	for range most(c.Count) {
		text = append(text, r.Text...)
		if len(text) > 3*api.MaxBytes {
			break
		}
	}
	e := api.Edit{From: s.From, To: s.To, Put: text}
	switch {
	case s.Kind == api.ByLines && r.Kind == api.ByLines:
		if last.Break == api.NoBreak {
			e.Put = breaks.Without(text)
		}
	case s.Kind == api.ByLines:
		e.To = last.To
	case r.Kind == api.ByLines:
		e.Put = slices.Concat(native, breaks.Without(text), native)
	}
	return p.grouped([]api.Edit{e}, s.From)
}

// lineKey is P1814 and P1815.
func (p *plain) lineKey(k int) api.Errno {
	add := func() api.Errno {
		if len(p.line) == api.MaxLine {
			return api.ErrLong
		}
		p.line = append(p.line, k)
		return api.OK
	}
	giveUp := func() api.Errno {
		p.mode, p.line = p.waitMode, nil
		return api.OK
	}
	if p.ctrlV {
		p.ctrlV = false
		if !scalar(k) || k == 10 || k == 13 {
			return api.ErrKey
		}
		return add()
	}
	switch {
	case k == 27:
		return giveUp()
	case k == 8 || k == 127:
		if len(p.line) == 0 {
			return giveUp()
		}
		p.line = p.line[:len(p.line)-1]
	case k == 21:
		p.line = nil
	case k == 23:
		p.line = shortened(p.line)
	case k == 22:
		p.ctrlV = true
	case k == 13:
		return p.lineDone()
	case plainTyped(k):
		return add()
	default:
		return api.ErrKey
	}
	return api.OK
}

func (p *plain) lineDone() api.Errno {
	mode, line := p.mode, p.line
	p.mode, p.line = p.waitMode, nil
	if mode != api.Command {
		if len(line) == 0 {
			line = p.d.Find
		}
		if len(line) == 0 {
			return api.ErrEmpty
		}
		if err := p.sought(line, mode == api.SearchBack); err != api.OK {
			return err
		}
		return p.done(p.waits)
	}
	if len(line) == 0 {
		return api.OK
	}
	p.d.Bank.Set(':', line)
	if x, _, err := ex.Parse(line); p.deep > 0 && err == api.OK && x.Verb >= api.XWrite {
		return api.ErrNested
	}
	return p.run(line)
}

func (p *plain) run(line []int) api.Errno {
	was := slices.Clone(p.d.Find)
	wish, err := ex.Run(p.d, line)
	if err != api.OK {
		return err
	}
	if !slices.Equal(was, p.d.Find) {
		p.back = false
	}
	p.wish = wish
	p.aim()
	return api.OK
}

func (p *plain) endRecording() api.Errno {
	name, text := p.rec, p.recKeys
	p.rec, p.recKeys = 0, nil
	if name >= 'A' && name <= 'Z' {
		name += 32
		if r, err := p.d.Bank.Get(name); err == api.OK {
			text = slices.Concat(r.Text, text)
		}
	}
	return p.d.Bank.Set(name, text)
}

func (p *plain) playKeys(ks []int) api.Errno {
	for _, k := range ks {
		if p.steps == api.MaxKeys {
			return api.ErrSteps
		}
		p.steps++
		if err := p.give(k); err != api.OK {
			return err
		}
	}
	return api.OK
}

func (p *plain) play(c api.Cmd) api.Errno {
	name := c.Arg
	if name == 64 {
		if p.played == 0 {
			return api.ErrEmpty
		}
		name = p.played
	}
	if name >= 'A' && name <= 'Z' {
		name += 32
	}
	if !(name >= 'a' && name <= 'z' || name >= '0' && name <= '9' || name == '"') {
		return api.ErrReg
	}
	r, err := p.d.Bank.Get(name)
	if err != api.OK {
		return err
	}
	if p.deep == api.MaxDeep {
		return api.ErrInner
	}
	var ks []int
	for i := 0; i < len(r.Text); i++ {
		switch {
		case r.Text[i] == 13 && i+1 < len(r.Text) && r.Text[i+1] == 10:
			ks = append(ks, 13)
			i++
		case r.Text[i] == 10:
			ks = append(ks, 13)
		default:
			ks = append(ks, r.Text[i])
		}
	}
	p.deep++
	for range most(c.Count) {
		if err = p.playKeys(ks); err != api.OK {
			break
		}
	}
	p.deep--
	p.played = name
	return err
}

func (p *plain) dot(c api.Cmd) api.Errno {
	if !p.last.has {
		return api.ErrNothing
	}
	if p.deep == api.MaxDeep {
		return api.ErrInner
	}
	if c.Count > 0 {
		p.last.cmd.Count = c.Count
	}
	cmd, ks := p.last.cmd, p.last.keys
	if isIn(cmd.Move, api.MSearch, api.MSearchBack) {
		if err := p.sought(p.last.pat, cmd.Move == api.MSearchBack); err != api.OK {
			return err
		}
	}
	if err := p.do(cmd); err != api.OK {
		return err
	}
	if !isIn(p.mode, api.Insert, api.Replace) {
		return api.OK
	}
	p.deep++
	err := p.playKeys(ks)
	if err == api.OK {
		err = p.more()
	}
	p.deep--
	p.endTyping()
	return err
}

// scroll is P1819.
func (p *plain) scroll(c api.Cmd) api.Errno {
	n, h, all, l := most(c.Count), p.height, p.count(), p.lineNo(p.d.At)
	place := func(line int) { p.d.At = motion.Place(p.text(), line, p.goal, false) }
	by := n
	switch c.Verb {
	case api.VPageDown, api.VPageUp:
		by = n * max(h-2, 1)
		fallthrough
	case api.VRowDown, api.VRowUp:
		if c.Verb == api.VPageUp || c.Verb == api.VRowUp {
			by = -by
		}
		top := view.Scroll(p.top, by, h, all)
		if top == p.top {
			return api.ErrMove
		}
		p.top = top
		if l < top {
			place(top)
		}
		if l > top+h-1 {
			place(top + h - 1)
		}
		return api.OK
	case api.VHalfDown, api.VHalfUp:
		by = view.Part(h, 0.5)
		if c.Count > 0 {
			by = c.Count
		}
		if c.Verb == api.VHalfUp {
			by = -by
		}
		line := min(max(l+by, 0), all-1)
		if line == l {
			return api.ErrMove
		}
		p.top = view.Scroll(p.top, by, h, all)
		place(line)
		return api.OK
	case api.VTop, api.VMiddle, api.VBottom:
		line := l
		if c.Count > 0 {
			line = min(c.Count-1, all-1)
		}
		if line != l {
			place(line)
		}
		x := map[int]int{api.VTop: line, api.VMiddle: line - (h-1)/2, api.VBottom: line - (h - 1)}[c.Verb]
		p.top = view.Scroll(0, x, h, all)
		return api.OK
	}
	return api.ErrKey
}

// Bring is P1820.
func (p *plain) Bring(line int, text []int) api.Errno {
	if p.mode != api.Normal {
		return api.ErrArg
	}
	if line < 0 || line > p.count() {
		return api.ErrLine
	}
	for _, a := range text {
		if a < -256 || a > 0x10FFFF {
			return api.ErrRange
		}
	}
	if len(text) == 0 {
		return api.OK
	}
	put := slices.Clone(text)
	if a := put[len(put)-1]; a != 10 && a != 13 {
		put = append(put, map[int][]int{api.LF: {10}, api.CRLF: {13, 10}, api.CR: {13}}[p.d.Set.Native]...)
	}
	at, begins := 0, 0
	if line > 0 {
		l := p.lineAt(line - 1)
		at, begins = l.Next, l.Next
		if l.Break == api.NoBreak {
			put = breaks.Without(put)
			end := []int{10}
			switch native := p.d.Set.Native; {
			case native == api.CRLF, native == api.LF && at > 0 && p.all()[at-1] == 13, native == api.CR && len(put) > 0 && put[0] == 10:
				end = []int{13, 10}
			case native == api.CR:
				end = []int{13}
			}
			put = slices.Concat(end, put)
			begins += len(end)
		}
	}
	was := p.d.At
	p.d.Book.Begin(was)
	if err := p.d.Book.Change([]api.Edit{{From: at, To: at, Put: put}}); err != api.OK {
		p.d.Book.Drop()
		return err
	}
	p.d.At = p.sign(min(p.lineNo(begins), p.count()-1))
	p.d.Book.End(p.d.At)
	p.aim()
	p.follow()
	return api.OK
}
