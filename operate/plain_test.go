package operate_test

import (
	"slices"

	"copyist/api"
	"copyist/cluster"
	"copyist/codec"
	"copyist/glyph"
	"copyist/history"
	"copyist/register"
)

// plain is the chapter read a second time: what a call does is worked out over plain lists of atoms; a book and a bank of its own are told just that.
type plain struct {
	limit int
	book  *history.Book
	bank  *register.Bank
	at    int
	set   api.Settings
}

// deed is what a call does, by the plain reading.
type deed struct {
	err    api.Errno                      // why it is refused ahead of all else
	take   func(*register.Bank) api.Errno // nil: no register is asked
	begin  int
	edits  []api.Edit
	cursor func(behind []int) int // asked of the atoms behind the change
}

func refused(err api.Errno) deed { return deed{err: err} }

func (p *plain) atoms() []int { return p.book.Text().Atoms(0, p.book.Text().Len()) }

func (p *plain) enc() int { return p.book.Text().Enc() }

// run does a deed, or nothing.
func (p *plain) run(d deed) api.Errno {
	if d.err != api.OK {
		return d.err
	}
	bank := p.bank.Copy()
	if d.take != nil {
		if err := d.take(bank); err != api.OK {
			return err
		}
	}
	a := p.atoms()
	if err := p.refuse(a, d.edits); err != api.OK {
		return err
	}
	own := !p.book.IsOpen()
	if own && p.book.Begin(d.begin) != api.OK || len(d.edits) > 0 && p.book.Change(d.edits) != api.OK {
		panic("the plain reading is wrong")
	}
	p.bank, p.at = bank, d.cursor(edited(a, d.edits))
	if own && p.book.End(p.at) != api.OK {
		panic("the plain reading is wrong")
	}
	return api.OK
}

func edited(a []int, edits []api.Edit) []int {
	b := slices.Clone(a)
	for _, e := range slices.Backward(edits) {
		b = slices.Concat(b[:e.From], e.Put, b[e.To:])
	}
	return b
}

// refuse tells the change's errors.
func (p *plain) refuse(a []int, edits []api.Edit) api.Errno {
	for _, e := range edits {
		for _, atom := range e.Put {
			if !codec.Fits(p.enc(), atom) {
				return api.ErrFit
			}
		}
	}
	size := 0
	for _, atom := range edited(a, edits) {
		size += codec.Size(p.enc(), atom)
	}
	if size > p.limit {
		return api.ErrFull
	}
	return api.OK
}

// rowsOf are the lines of a list, the tail not among them.
func rowsOf(a []int) []api.Line {
	var rows []api.Line
	from := 0
	for i := 0; i < len(a); i++ {
		row := api.Line{From: from, To: i, Next: i + 1}
		switch {
		case a[i] == 13 && i+1 < len(a) && a[i+1] == 10:
			row.Next, row.Break = i+2, api.CRLF
			i++
		case a[i] == 13:
			row.Break = api.CR
		case a[i] == 10:
			row.Break = api.LF
		default:
			continue
		}
		rows = append(rows, row)
		from = row.Next
	}
	if from < len(a) || len(a) == 0 {
		rows = append(rows, api.Line{From: from, To: len(a), Next: len(a)})
	}
	return rows
}

// rowOf is the number of the line of an offset, the last one for the tail and for all that is above.
func rowOf(a []int, at int) int {
	rows := rowsOf(a)
	for i, row := range rows {
		if at < row.Next {
			return i
		}
	}
	return len(rows) - 1
}

// bounds are the offsets at which clusters of a line begin, and its To.
func bounds(a []int, row api.Line) []int {
	b := cluster.Breaks(a[row.From:row.To])
	for i := range b {
		b[i] += row.From
	}
	return b
}

// clamp is P801 without past.
func clamp(a []int, at int) int {
	row := rowsOf(a)[rowOf(a, at)]
	to := row.From
	for _, b := range bounds(a, row) {
		if b < row.To && b <= at {
			to = b
		}
	}
	return to
}

// column is P802, of an offset that was clamped.
func column(a []int, at int) int {
	return slices.Index(bounds(a, rowsOf(a)[rowOf(a, at)]), at)
}

// place is P803 without past, of a line that there is.
func place(a []int, row api.Line, col int) int {
	b := bounds(a, row)
	return b[min(col, max(len(b)-2, 0))]
}

// sign is the first sign at an offset.
func sign(a []int, at int) int {
	row := rowsOf(a)[rowOf(a, at)]
	b := bounds(a, row)
	for _, at := range b[:len(b)-1] {
		if glyph.Word(a[at]) != glyph.Blank {
			return at
		}
	}
	return place(a, row, len(b))
}

func clamped(at int) func([]int) int { return func(b []int) int { return clamp(b, at) } }

func signed(at int) func([]int) int { return func(b []int) int { return sign(b, at) } }

func just(at int) func([]int) int { return func([]int) int { return at } }

// spanOf tells how a span is refused, and its lines.
func spanOf(a []int, s api.Span) (api.Errno, int, int) {
	if s.Kind != 0 && s.Kind != 1 {
		return api.ErrArg, 0, 0
	}
	if s.From < 0 || s.From > s.To || s.To > len(a) {
		return api.ErrRange, 0, 0
	}
	return api.OK, rowOf(a, s.From), rowOf(a, max(s.From, s.To-1))
}

func (p *plain) end() []int {
	return [][]int{{10}, {10}, {13, 10}, {13}}[p.native()]
}

func (p *plain) native() int {
	if p.set.Native < 1 || p.set.Native > 3 {
		return api.LF
	}
	return p.set.Native
}

// lineEnd is a typed line end with these atoms ahead and behind it.
func (p *plain) lineEnd(ahead, behind []int) []int {
	if p.native() == api.LF && len(ahead) > 0 && ahead[len(ahead)-1] == 13 || p.native() == api.CR && len(behind) > 0 && behind[0] == 10 {
		return []int{13, 10}
	}
	return p.end()
}

func (p *plain) taken(a []int, s api.Span, first, last int) api.Reg {
	if s.Kind == api.ByChars {
		return api.Reg{Text: a[s.From:s.To]}
	}
	rows := rowsOf(a)
	text := slices.Clone(a[rows[first].From:rows[last].Next])
	if rows[last].Break == api.NoBreak {
		text = append(text, p.end()...)
	}
	return api.Reg{Kind: api.ByLines, Text: text}
}

func (p *plain) yank(reg int, s api.Span) deed {
	a := p.atoms()
	err, first, last := spanOf(a, s)
	if err == api.OK && s.Kind == api.ByChars && s.From == s.To {
		err = api.ErrNothing
	}
	if err != api.OK {
		return refused(err)
	}
	r := p.taken(a, s, first, last)
	d := deed{take: func(b *register.Bank) api.Errno { return b.Yank(reg, r) }, cursor: clamped(s.From)}
	if s.Kind == api.ByLines {
		d.cursor = just(place(a, rowsOf(a)[first], column(a, clamp(a, p.at))))
	}
	return d
}

func (p *plain) remove(reg int, s api.Span) deed {
	a := p.atoms()
	err, first, last := spanOf(a, s)
	if err == api.OK && (s.Kind == api.ByChars && s.From == s.To || s.Kind == api.ByLines && len(a) == 0) {
		err = api.ErrNothing
	}
	if err != api.OK {
		return refused(err)
	}
	r := p.taken(a, s, first, last)
	d := deed{take: func(b *register.Bank) api.Errno { return b.Delete(reg, r) }, begin: clamp(a, p.at)}
	if s.Kind == api.ByChars {
		d.edits, d.cursor = []api.Edit{{From: s.From, To: s.To}}, clamped(s.From)
		return d
	}
	rows := rowsOf(a)
	from := rows[first].From
	if rows[last].Break == api.NoBreak && first > 0 && rows[first-1].From < rows[first-1].To {
		from = rows[first-1].To
	}
	d.edits, d.cursor = []api.Edit{{From: from, To: rows[last].Next}}, signed(from)
	return d
}

func (p *plain) change(reg int, s api.Span) deed {
	a := p.atoms()
	err, first, last := spanOf(a, s)
	if err != api.OK {
		return refused(err)
	}
	d := deed{begin: clamp(a, p.at), cursor: just(s.From)}
	if s.Kind == api.ByChars && s.From == s.To {
		return d
	}
	r := p.taken(a, s, first, last)
	d.take = func(b *register.Bank) api.Errno { return b.Delete(reg, r) }
	from, to := s.From, s.To
	if s.Kind == api.ByLines {
		from, to = rowsOf(a)[first].From, rowsOf(a)[last].To
		d.cursor = just(from)
	}
	if from < to {
		d.edits = []api.Edit{{From: from, To: to}}
	}
	return d
}

func (p *plain) put(reg int, up bool, count int) deed {
	if count < 1 {
		return refused(api.ErrArg)
	}
	r, err := p.bank.Get(reg)
	if err != api.OK {
		return refused(err)
	}
	a := p.atoms()
	c := clamp(a, p.at)
	row := rowsOf(a)[rowOf(a, c)]
	text := slices.Repeat(r.Text, min(count, 9999))
	d := deed{begin: c}
	if r.Kind == api.ByChars {
		at := c
		if !up && row.From < row.To {
			b := bounds(a, row)
			at = b[slices.Index(b, c)+1]
		}
		d.edits, d.cursor = []api.Edit{{From: at, To: at, Put: text}}, clamped(at+len(text)-1)
		if slices.Contains(text, 10) || slices.Contains(text, 13) {
			d.cursor = clamped(at)
		}
		return d
	}
	at := row.Next
	if up {
		at = row.From
	}
	d.cursor = signed(at)
	if !up && row.Break == api.NoBreak {
		rest := text[:len(text)-1]
		if text[len(text)-1] == 10 && len(rest) > 0 && rest[len(rest)-1] == 13 {
			rest = rest[:len(rest)-1]
		}
		end := p.lineEnd(a, rest)
		text, d.cursor = slices.Concat(end, rest), signed(at+len(end))
	}
	d.edits = []api.Edit{{From: at, To: at, Put: text}}
	return d
}

func (p *plain) turn(how int, s api.Span) deed {
	turns := map[int]func(int) int{api.VUpper: glyph.Upper, api.VLower: glyph.Lower, api.VFlip: glyph.Turn}
	if turns[how] == nil {
		return refused(api.ErrArg)
	}
	a := p.atoms()
	err, first, last := spanOf(a, s)
	if err == api.OK && s.Kind == api.ByChars && s.From == s.To {
		err = api.ErrNothing
	}
	if err != api.OK {
		return refused(err)
	}
	from, to := s.From, s.To
	if s.Kind == api.ByLines {
		from, to = rowsOf(a)[first].From, rowsOf(a)[last].Next
	}
	d := deed{begin: clamp(a, p.at), cursor: clamped(from)}
	for i := from; i < to; i++ {
		if x := turns[how](a[i]); x != a[i] && codec.Fits(p.enc(), x) {
			d.edits = append(d.edits, api.Edit{From: i, To: i + 1, Put: []int{x}})
		}
	}
	return d
}

func (p *plain) shift(s api.Span, steps int) deed {
	if steps == 0 {
		return refused(api.ErrArg)
	}
	a := p.atoms()
	err, first, last := spanOf(a, s)
	if err != api.OK {
		return refused(err)
	}
	rows := rowsOf(a)
	d := deed{begin: clamp(a, p.at), cursor: signed(rows[first].From)}
	for _, row := range rows[first : last+1] {
		e := api.Edit{From: row.From, To: row.From}
		if steps > 0 {
			e.Put = slices.Repeat([]int{9}, min(steps, 9999))
		}
		for k := 0; k > steps && k > -9999; k-- {
			if e.To < row.To && a[e.To] == 9 {
				e.To++
				continue
			}
			for j := 0; j < 4 && e.To < row.To && a[e.To] == 32; j++ {
				e.To++
			}
		}
		if steps > 0 && row.From < row.To || e.From < e.To {
			d.edits = append(d.edits, e)
		}
	}
	return d
}

func (p *plain) join(first, last int, bare bool) deed {
	a := p.atoms()
	rows := rowsOf(a)
	if first < 0 || first > last || last > len(rows)-1 {
		return refused(api.ErrRange)
	}
	if first == last {
		return refused(api.ErrNothing)
	}
	d := deed{begin: clamp(a, p.at)}
	joined := slices.Clone(a[rows[first].From:rows[first].To]) // so far
	at := 0
	for i := first + 1; i <= last; i++ {
		e := api.Edit{From: rows[i-1].To, To: rows[i].From}
		b := bounds(a, rows[i])
		for k := 0; !bare && k+1 < len(b) && b[k+1] == b[k]+1 && glyph.Word(a[b[k]]) == glyph.Blank; k++ {
			e.To++
		}
		rest := a[e.To:rows[i].To]
		at = rows[first].From + len(joined)
		if !bare && len(joined) > 0 && glyph.Word(joined[len(joined)-1]) != glyph.Blank && len(rest) > 0 && rest[0] != ')' {
			e.Put = []int{32}
		}
		joined = slices.Concat(joined, e.Put, rest)
		d.edits = append(d.edits, e)
	}
	d.cursor = clamped(at)
	return d
}

func (p *plain) typing(typed []int) deed {
	a := p.atoms()
	at := min(max(p.at, 0), len(a))
	var put []int
	for i, atom := range typed {
		if atom != 10 {
			put = append(put, atom)
			continue
		}
		behind := a[at:]
		if i+1 < len(typed) {
			behind = nil // a line end that follows begins with 13, wherever this one ends with 13
		}
		put = append(put, p.lineEnd(slices.Concat(a[:at], put), behind)...)
	}
	d := deed{begin: at, cursor: just(at + len(put))}
	if len(put) > 0 {
		d.edits = []api.Edit{{From: at, To: at, Put: put}}
	}
	return d
}

func (p *plain) over(count, atom int) deed {
	if count < 1 {
		return refused(api.ErrArg)
	}
	if !codec.Fits(p.enc(), atom) {
		return refused(api.ErrFit)
	}
	count = min(count, 9999)
	a := p.atoms()
	c := clamp(a, p.at)
	b := bounds(a, rowsOf(a)[rowOf(a, c)])
	b = b[slices.Index(b, c):]
	if len(b)-1 < count {
		return refused(api.ErrNothing)
	}
	d := deed{begin: c}
	if atom == 10 {
		end := p.lineEnd(a[:c], a[b[count]:])
		d.edits, d.cursor = []api.Edit{{From: c, To: b[count], Put: end}}, clamped(c+len(end))
		return d
	}
	for k := range count {
		d.edits = append(d.edits, api.Edit{From: b[k], To: b[k+1], Put: []int{atom}})
	}
	d.cursor = clamped(c + count - 1)
	return d
}
