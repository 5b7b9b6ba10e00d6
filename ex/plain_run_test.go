package ex_test

import (
	"slices"

	"copyist/api"
	"copyist/glyph"
	"copyist/motion"
	"copyist/operate"
	"copyist/pattern"
)

// This file does a command line a second time, plainly: by the words of the chapter, on whole lists, with all lines watched by the book.

type plain struct {
	*operate.Desk
	used bool
}

func (d *plain) atoms() []int { return d.Book.Text().Atoms(0, d.Book.Text().Len()) }

// rows are the lines of the text.
func (d *plain) rows() []api.Line {
	a := d.atoms()
	var all []api.Line
	from := 0
	for i := 0; i < len(a); i++ {
		line := api.Line{From: from, To: i, Next: i + 1}
		switch {
		case a[i] == 13 && i+1 < len(a) && a[i+1] == 10:
			line.Break, line.Next = api.CRLF, i+2
			i++
		case a[i] == 13:
			line.Break = api.CR
		case a[i] == 10:
			line.Break = api.LF
		default:
			continue
		}
		all = append(all, line)
		from = line.Next
	}
	if from < len(a) || len(a) == 0 {
		all = append(all, api.Line{From: from, To: len(a), Next: len(a)})
	}
	return all
}

// rowOf is the number of the line that an offset is in; of the tail as many as there are.
func (d *plain) rowOf(at int) int {
	rows := d.rows()
	for i, r := range rows {
		if at < r.Next || r.Break == api.NoBreak {
			return i
		}
	}
	return len(rows)
}

func (d *plain) clamp(at int) int { return motion.Clamp(d.Book.Text(), at, false) }

func (d *plain) sign(at int) int {
	land, err := motion.Rows(d.Book.Text(), at, 0, api.Move{Kind: api.MHere})
	if err != api.OK {
		panic(err)
	}
	return land.At
}

func (d *plain) native() []int {
	switch d.Set.Native {
	case api.CRLF:
		return []int{13, 10}
	case api.CR:
		return []int{13}
	}
	return []int{10}
}

// lines are what addresses mean; find is what was sought last, and whether anything was.
func (d *plain) lines(addrs []api.Addr) (found []int, find []int, used bool, err api.Errno) {
	find = d.Find
	rows := d.rows()
	here := d.rowOf(d.clamp(d.At))
	end := len(rows) - 1
	far := func(n int) bool { return n > 999999999 || n < -999999999 }
	for _, a := range addrs {
		l := 0
		switch a.Kind {
		case api.ANumber:
			if far(a.N) {
				return nil, nil, false, api.ErrLine
			}
			l = a.N - 1
		case api.ADot:
			l = here
		case api.ALast:
			l = end
		case api.AMark:
			at, err := d.Book.Mark(a.N)
			if err != api.OK {
				return nil, nil, false, err
			}
			l = min(d.rowOf(at), end)
		case api.ASearch, api.ASearchBack:
			if len(a.Pat) > 0 {
				find = a.Pat
			}
			if len(find) == 0 {
				return nil, nil, false, api.ErrEmpty
			}
			p, _, err := pattern.Compile(find, d.Set.IgnoreCase)
			if err != api.OK {
				return nil, nil, false, err
			}
			used = true
			at, back := rows[here].To, false
			if a.Kind == api.ASearchBack {
				at, back = rows[here].From, true
			}
			s, err := p.Search(d.Book.Text(), at, back, !d.Set.NoWrap)
			if err != api.OK {
				return nil, nil, false, err
			}
			l = d.rowOf(s.From)
		default:
			return nil, nil, false, api.ErrArg
		}
		if far(a.Off) || l+a.Off < -1 || l+a.Off > end {
			return nil, nil, false, api.ErrLine
		}
		found = append(found, l+a.Off)
	}
	return found, find, used, api.OK
}

// resolve is lines for a Run: what was sought is the desk's from then on.
func (d *plain) resolve(addrs ...api.Addr) ([]int, api.Errno) {
	found, find, used, err := d.lines(addrs)
	if err == api.OK && used {
		d.Find, d.used = slices.Clone(find), true
	}
	return found, err
}

// plainRun does a line on a desk.
func plainRun(desk *operate.Desk, src []int) (api.Wish, api.Errno) {
	x, _, err := plainParse(src)
	if err != api.OK {
		return api.Wish{}, err
	}
	if desk.Book.IsOpen() {
		return api.Wish{}, api.ErrOpen
	}
	d := &plain{Desk: desk}
	was, bank := *desk, desk.Bank.Copy()
	grouped := !slices.Contains([]int{api.XGoto, api.XYank, api.XMark, api.XUndo, api.XRedo, api.XSet}, x.Verb) && x.Verb < api.XWrite
	if grouped {
		d.Book.Begin(d.clamp(d.At))
	}
	wish, err := d.do(x)
	if err != api.OK {
		if grouped {
			d.Book.Drop()
		}
		*desk = was
		desk.Bank = bank
		return api.Wish{}, err
	}
	if grouped {
		d.Book.End(d.At)
	}
	if d.used {
		d.Bank.Set(47, d.Find)
	}
	return wish, api.OK
}

// do does a command from its addresses on.
func (d *plain) do(x api.Ex) (api.Wish, api.Errno) {
	found, err := d.resolve(x.Addrs...)
	if err != api.OK {
		return api.Wish{}, err
	}
	rows := d.rows()
	end := len(rows) - 1
	here := d.rowOf(d.clamp(d.At))
	a, b := here, here
	switch {
	case len(found) > 0:
		a, b = found[0], found[len(found)-1]
	case x.Verb == api.XGlobal || x.Verb == api.XGlobalNot:
		a, b = 0, end
	}
	if len(found) == 2 && a > b {
		return api.Wish{}, api.ErrLine
	}
	if a == -1 && x.Verb != api.XPut && x.Verb != api.XRead && x.Verb != api.XGoto {
		return api.Wish{}, api.ErrLine
	}
	switch x.Verb {
	case api.XWrite, api.XEdit, api.XQuit, api.XWriteQuit, api.XExit, api.XFile:
		return api.Wish{Verb: x.Verb, Force: x.Force, Name: show(x.Arg)}, api.OK
	case api.XRead:
		return api.Wish{Verb: x.Verb, Line: b + 1, Name: show(x.Arg)}, api.OK
	case api.XGoto:
		if len(found) > 0 {
			d.At = d.sign(rows[max(b, 0)].From)
		}
		return api.Wish{}, api.OK
	case api.XUndo, api.XRedo:
		travel := d.Book.Undo
		if x.Verb == api.XRedo {
			travel = d.Book.Redo
		}
		at, err := travel()
		if err == api.OK {
			d.At = d.clamp(at)
		}
		return api.Wish{}, err
	case api.XSet:
		return api.Wish{}, d.set(x.Arg)
	case api.XMark:
		return api.Wish{}, d.Book.SetMark(x.Reg, rows[b].From)
	case api.XPut:
		return api.Wish{}, d.put(x, b)
	case api.XMove, api.XCopy:
		return api.Wish{}, d.carry(x, a, b)
	case api.XSub, api.XSubAgain:
		return api.Wish{}, d.substitute(x, a, b)
	case api.XGlobal, api.XGlobalNot:
		return api.Wish{}, d.global(x, a, b)
	}
	return api.Wish{}, d.operator(x, a, b)
}

// operator does what the desk has a call for.
func (d *plain) operator(x api.Ex, a, b int) api.Errno {
	rows := d.rows()
	end := len(rows) - 1
	n := x.Count
	if x.Verb == api.XJoin {
		if n == 0 && len(x.Addrs) < 2 {
			b = min(a+1, end)
		}
		if n == 1 {
			n = 2
		}
	}
	if n > 0 && x.Verb != api.XRight && x.Verb != api.XLeft {
		a, b = b, min(b+n-1, end)
	}
	span := api.Span{From: rows[a].From, To: rows[b].Next, Kind: api.ByLines}
	switch x.Verb {
	case api.XDelete:
		return d.Delete(x.Reg, span)
	case api.XYank:
		at := d.clamp(d.At)
		err := d.Yank(x.Reg, span)
		d.At = at
		return err
	case api.XRight:
		return d.Shift(span, x.Count)
	case api.XLeft:
		return d.Shift(span, -x.Count)
	}
	return d.Join(a, b, x.Force)
}

func (d *plain) set(arg []int) api.Errno {
	word := ""
	for _, atom := range append(slices.Clone(arg), 32) {
		if atom != 32 && atom != 9 {
			if atom < 0 || atom > 127 {
				return api.ErrTail
			}
			word += string(rune(atom))
			continue
		}
		switch word {
		case "":
		case "ic", "ignorecase":
			d.Set.IgnoreCase = true
		case "noic", "noignorecase":
			d.Set.IgnoreCase = false
		case "ws", "wrapscan":
			d.Set.NoWrap = false
		case "nows", "nowrapscan":
			d.Set.NoWrap = true
		case "br=lf":
			d.Set.Native = api.LF
		case "br=crlf":
			d.Set.Native = api.CRLF
		case "br=cr":
			d.Set.Native = api.CR
		default:
			return api.ErrTail
		}
		word = ""
	}
	return api.OK
}

// lastBreak tells how many atoms the break at the end of a text has, and where the line begins that it ends.
func lastBreak(text []int) (size, begin int) {
	size = 1
	n := len(text)
	if n > 1 && text[n-1] == 10 && text[n-2] == 13 {
		size = 2
	}
	for begin = n - size; begin > 0 && text[begin-1] != 10 && text[begin-1] != 13; begin-- {
	}
	return size, begin
}

// whole is the edit that puts whole lines behind a line, and where the last of them begins in the text behind it.
func (d *plain) whole(text []int, l int) (api.Edit, int) {
	size, begin := lastBreak(text)
	if l == -1 {
		return api.Edit{Put: text}, begin
	}
	row := d.rows()[l]
	if row.Break != api.NoBreak {
		return api.Edit{From: row.Next, To: row.Next, Put: text}, row.Next + begin
	}
	a := d.atoms()
	end := d.native()
	rest := text[:len(text)-size]
	if end[0] == 10 && len(a) > 0 && a[len(a)-1] == 13 || end[len(end)-1] == 13 && len(rest) > 0 && rest[0] == 10 {
		end = []int{13, 10}
	}
	return api.Edit{From: len(a), To: len(a), Put: append(slices.Clone(end), rest...)}, len(a) + len(end) + begin
}

func (d *plain) put(x api.Ex, b int) api.Errno {
	r, err := d.Bank.Get(x.Reg)
	if err != api.OK {
		return err
	}
	if r.Kind == api.ByChars {
		r.Text = append(r.Text, d.native()...)
	}
	if x.Force {
		b = max(b-1, -1)
	}
	edit, at := d.whole(r.Text, b)
	if err := d.Book.Change([]api.Edit{edit}); err != api.OK {
		return err
	}
	d.At = d.sign(at)
	return api.OK
}

// carry copies or moves lines.
func (d *plain) carry(x api.Ex, a, b int) api.Errno {
	to, err := d.resolve(x.Dest)
	if err != api.OK {
		return err
	}
	l := to[0]
	rows, atoms := d.rows(), d.atoms()
	text := slices.Clone(atoms[rows[a].From:rows[b].Next])
	if rows[b].Break == api.NoBreak {
		text = append(text, d.native()...)
	}
	edit, at := d.whole(text, l)
	edits := []api.Edit{edit}
	if x.Verb == api.XMove {
		if l >= a && l < b {
			return api.ErrInto
		}
		if l == a-1 || l == b {
			d.At = d.sign(rows[b].From)
			return api.OK
		}
		from := rows[a].From
		if rows[b].Break == api.NoBreak && a > 0 && rows[a-1].From < rows[a-1].To {
			from = rows[a-1].To
		}
		gone := api.Edit{From: from, To: rows[b].Next}
		if l < a {
			edits = []api.Edit{edit, gone}
		} else {
			edits = []api.Edit{gone, edit}
			at -= gone.To - gone.From
		}
	}
	if err := d.Book.Change(edits); err != api.OK {
		return err
	}
	d.At = d.sign(at)
	return api.OK
}

func (d *plain) substitute(x api.Ex, a, b int) api.Errno {
	sub := api.Sub{Pat: x.Pat, Rep: x.Rep, Flags: x.Flags}
	if x.Verb == api.XSubAgain {
		sub = api.Sub{Pat: d.Sub.Pat, Rep: d.Sub.Rep, Flags: x.Flags}
	} else if len(sub.Pat) == 0 {
		sub.Pat = d.Find
	}
	if len(sub.Pat) == 0 {
		return api.ErrEmpty
	}
	p, _, err := pattern.Compile(sub.Pat, d.Set.IgnoreCase || sub.Flags&api.SubIgnore != 0)
	if err != api.OK {
		return err
	}
	atoms := d.atoms()
	var edits []api.Edit
	place, moved := 0, 0
	for _, row := range d.rows()[a : b+1] {
		content := atoms[row.From:row.To]
		all := p.All(content)
		if sub.Flags&api.SubAll == 0 {
			all = nil
			if m, ok := p.Match(content, 0); ok {
				all = [][20]int{m}
			}
		}
		for _, m := range all {
			filled, err := pattern.Fill(sub.Rep, content, m)
			if err != api.OK {
				return err
			}
			var put []int
			for _, atom := range filled {
				if atom == 10 {
					put = append(put, d.native()...)
				} else {
					put = append(put, atom)
				}
			}
			edits = append(edits, api.Edit{From: row.From + m[0], To: row.From + m[1], Put: put})
			place = row.From + m[0] + moved
			moved += len(put) - (m[1] - m[0])
		}
	}
	if len(edits) == 0 {
		return api.ErrMatch
	}
	if sub.Flags&api.SubCount == 0 {
		if err := d.Book.Change(edits); err != api.OK {
			return err
		}
		d.At = d.sign(place)
	} else {
		d.At = d.clamp(d.At)
	}
	d.Sub, d.Find, d.used = sub, sub.Pat, true
	return api.OK
}

func (d *plain) global(x api.Ex, a, b int) api.Errno {
	pat := x.Pat
	if len(pat) == 0 {
		pat = d.Find
	}
	if len(pat) == 0 {
		return api.ErrEmpty
	}
	p, _, err := pattern.Compile(pat, d.Set.IgnoreCase)
	if err != api.OK {
		return err
	}
	y, _, err := plainParse(x.Arg)
	if err != api.OK {
		return err
	}
	if !slices.Contains([]int{api.XGoto, api.XDelete, api.XYank, api.XPut, api.XMove, api.XCopy, api.XJoin, api.XRight, api.XLeft, api.XSub, api.XSubAgain, api.XMark}, y.Verb) {
		return api.ErrNested
	}
	var froms []int
	atoms := d.atoms()
	for _, row := range d.rows()[a : b+1] {
		if _, ok := p.Match(atoms[row.From:row.To], 0); ok == (x.Verb == api.XGlobal) {
			froms = append(froms, row.From)
		}
	}
	if len(froms) == 0 {
		return api.ErrMatch
	}
	d.Find, d.used = pat, true
	if err := d.Book.Watch(froms); err != api.OK {
		return err
	}
	for i := range froms {
		at := d.Book.Watched()[i]
		if at < 0 || d.ahead(at) {
			continue
		}
		d.At = at
		find, sub := d.Find, d.Sub
		_, err := d.do(y)
		mild := err == api.ErrMatch && (y.Verb == api.XSub || y.Verb == api.XSubAgain) || err == api.ErrNothing && y.Verb == api.XJoin
		if mild {
			d.Find, d.Sub, d.At = find, sub, at
		} else if err != api.OK {
			return err
		}
	}
	d.Book.Watch(nil)
	d.At = d.clamp(d.At)
	return api.OK
}

// ahead tells whether more than blanks stand ahead of an offset in its line.
func (d *plain) ahead(at int) bool {
	rows := d.rows()
	i := d.rowOf(at)
	if i == len(rows) {
		return false
	}
	for _, atom := range d.atoms()[rows[i].From:at] {
		if glyph.Word(atom) != glyph.Blank {
			return true
		}
	}
	return false
}
