package object_test

import (
	"slices"
	"testing"

	"copyist/api"
	"copyist/cluster"
	"copyist/codec"
	"copyist/glyph"
	"copyist/piece"
)

var encodings = []int{api.UTF8, api.UTF16LE, api.UTF16BE, api.Latin1}

// The encodings that have accents: in Latin1 every cluster but CRLF is one atom.
var wide = []int{api.UTF8, api.UTF16LE, api.UTF16BE}

func spell(s string) []int {
	var atoms []int
	for _, c := range s {
		atoms = append(atoms, int(c))
	}
	return atoms
}

// load opens a text that has these atoms, loaded ones.
func load(t *testing.T, enc int, atoms []int) *piece.Text {
	t.Helper()
	b, at, e := codec.Encode(enc, atoms)
	if e != api.OK {
		t.Fatalf("encoding %d has no bytes for the atom at %d", enc, at)
	}
	x, e := piece.Open(enc, b, api.MaxBytes)
	if e != api.OK {
		t.Fatalf("Open: %d", e)
	}
	if got := x.Atoms(0, x.Len()); !slices.Equal(got, atoms) {
		t.Fatalf("%v is read as %v", atoms, got)
	}
	return x
}

// typed opens a text into which these atoms were put, one by one, the last first.
func typed(t *testing.T, enc int, atoms []int) *piece.Text {
	t.Helper()
	x, _ := piece.Open(enc, nil, api.MaxBytes)
	for k := len(atoms) - 1; k >= 0; k-- {
		if e := x.Change([]api.Edit{{Put: atoms[k : k+1]}}); e != api.OK {
			t.Fatalf("the atom %d does not go into encoding %d: %d", atoms[k], enc, e)
		}
	}
	return x
}

func mv(kind, count, arg int) api.Move { return api.Move{Kind: kind, Count: count, Arg: arg} }

// short gives all texts of some letters with up to so many of them.
func short(letters string, most int) [][]int {
	all := [][]int{nil}
	for from := 0; len(all[from]) < most; from++ {
		for _, c := range letters {
			all = append(all, append(slices.Clone(all[from]), int(c)))
		}
	}
	return all
}

type answer struct {
	span api.Span
	err  api.Errno
}

func refuse(e api.Errno) answer { return answer{err: e} }

func byChars(from, to int) answer {
	return answer{span: api.Span{From: from, To: to, Kind: api.ByChars}}
}

func byLines(from, to int) answer {
	return answer{span: api.Span{From: from, To: to, Kind: api.ByLines}}
}

// spot is a cluster: where it begins and ends.
type spot struct{ at, end int }

// doc is the chapter read a second time: whole lists of all lines, of all their clusters and of those of the whole text.
type doc struct {
	atoms []int
	lines []api.Line // behind the last one the tail, if there is one
	count int
	spots [][]spot // of each of the lines' contents
	whole []spot
}

func spots(atoms []int, from int) []spot {
	var out []spot
	bounds := cluster.Breaks(atoms)
	for i := range len(bounds) - 1 {
		out = append(out, spot{from + bounds[i], from + bounds[i+1]})
	}
	return out
}

func read(atoms []int) *doc {
	d := &doc{atoms: atoms, whole: spots(atoms, 0)}
	n, from := len(atoms), 0
	for k := 0; k < n; k++ {
		next := k + 1
		if atoms[k] == 13 && next < n && atoms[next] == 10 {
			next++
		}
		if atoms[k] == 13 || atoms[k] == 10 {
			d.lines = append(d.lines, api.Line{From: from, To: k, Next: next})
			from, k = next, next-1
		}
	}
	d.count = len(d.lines)
	if n == 0 || from < n {
		d.count++
	}
	d.lines = append(d.lines, api.Line{From: from, To: n, Next: n}) // the last line, or the tail
	for _, l := range d.lines {
		d.spots = append(d.spots, spots(atoms[l.From:l.To], l.From))
	}
	return d
}

func (d *doc) of(at int) int {
	for i, l := range d.lines {
		if at < l.Next {
			return i
		}
	}
	return len(d.lines) - 1
}

func (d *doc) kind(s spot) int { return glyph.Word(d.atoms[s.at]) }

func (d *doc) is(s spot, atom int) bool { return s.end == s.at+1 && d.atoms[s.at] == atom }

// cell tells the number of at's cell among its line's clusters.
func (d *doc) cell(line, at int) int {
	all := d.spots[line]
	for i, s := range all {
		if s.at <= at && at < s.end {
			return i
		}
	}
	return len(all) - 1
}

func count(m api.Move) int {
	if m.Count == 0 {
		return 1
	}
	return m.Count
}

func (d *doc) wrong(at int, m api.Move, kinds, args []int) api.Errno {
	switch {
	case !slices.Contains(kinds, m.Kind) || m.Count < 0 || args != nil && !slices.Contains(args, m.Arg):
		return api.ErrArg
	case at < 0 || at > len(d.atoms):
		return api.ErrRange
	}
	return api.OK
}

// run is a stretch or a passage.
type run struct {
	from, to int
	blank    bool
}

// around tells the answer of the runs from the one with the number i on; full: with blanks on one side.
func around(runs []run, i, k int, full bool) (from, to int, ok bool) {
	first := runs[i]
	var counted []int
	for j := i; j < len(runs); j++ {
		if !full || !runs[j].blank {
			counted = append(counted, j)
		}
	}
	if len(counted) < k {
		return 0, 0, false
	}
	last := counted[k-1]
	from, to = first.from, runs[last].to
	switch {
	case !full || first.blank:
	case last+1 < len(runs) && runs[last+1].blank:
		to = runs[last+1].to
	case i > 0 && runs[i-1].blank:
		from = runs[i-1].from
	}
	return from, to, true
}

func (d *doc) words(at int, m api.Move) answer {
	if e := d.wrong(at, m, wordKinds, nil); e != api.OK {
		return refuse(e)
	}
	big := m.Kind == api.OBigWord || m.Kind == api.OABigWord
	line := d.of(at)
	all := d.spots[line]
	if len(all) == 0 {
		return refuse(api.ErrObject)
	}
	kind := func(i int) int {
		if k := d.kind(all[i]); !big || k != glyph.Sign {
			return k
		}
		return glyph.Letter
	}
	var runs []run
	first, cell := 0, d.cell(line, at)
	for i, s := range all {
		if i == 0 || kind(i) != kind(i-1) {
			runs = append(runs, run{s.at, s.end, kind(i) == glyph.Blank})
		}
		runs[len(runs)-1].to = s.end
		if i == cell {
			first = len(runs) - 1
		}
	}
	from, to, ok := around(runs, first, count(m), m.Kind == api.OAWord || m.Kind == api.OABigWord)
	if !ok {
		return refuse(api.ErrObject)
	}
	return byChars(from, to)
}

func (d *doc) isMark(line, i, quote int) bool {
	all := d.spots[line]
	slashes := 0
	for j := i - 1; j >= 0 && d.is(all[j], '\\'); j-- {
		slashes++
	}
	return d.is(all[i], quote) && slashes%2 == 0
}

func (d *doc) quotes(at int, m api.Move) answer {
	if e := d.wrong(at, m, quoteKinds, quoteArgs); e != api.OK {
		return refuse(e)
	}
	line := d.of(at)
	all := d.spots[line]
	var marks []int
	for i := range all {
		if d.isMark(line, i, m.Arg) {
			marks = append(marks, i)
		}
	}
	cell := d.cell(line, at)
	for ; len(marks) >= 2; marks = marks[2:] {
		first, second := marks[0], marks[1]
		if second < cell {
			continue
		}
		if m.Kind == api.OQuote && count(m) == 1 {
			return byChars(all[first].end, all[second].at)
		}
		from, to := all[first].at, all[second].end
		if m.Kind == api.OQuote {
			return byChars(from, to)
		}
		for i := second + 1; i < len(all) && d.kind(all[i]) == glyph.Blank; i++ {
			to = all[i].end
		}
		for i := first - 1; to == all[second].end && i >= 0 && d.kind(all[i]) == glyph.Blank; i-- {
			from = all[i].at
		}
		return byChars(from, to)
	}
	return refuse(api.ErrObject)
}

type block struct{ open, shut spot }

// blocks tells all blocks of the whole text, those that close first ahead.
func (d *doc) blocks(open int) []block {
	shut := spell(")]}>")[slices.Index(blockArgs, open)]
	var kept []spot
	var out []block
	for _, s := range d.whole {
		switch {
		case d.is(s, open):
			kept = append(kept, s)
		case d.is(s, shut) && len(kept) > 0:
			out = append(out, block{kept[len(kept)-1], s})
			kept = kept[:len(kept)-1]
		}
	}
	return out
}

func (d *doc) block(at int, m api.Move) answer {
	if e := d.wrong(at, m, blockKinds, blockArgs); e != api.OK {
		return refuse(e)
	}
	all := d.blocks(m.Arg)
	all = slices.DeleteFunc(all, func(b block) bool { return at < b.open.at || b.shut.end <= at })
	slices.SortFunc(all, func(a, b block) int { return b.open.at - a.open.at })
	if len(all) < count(m) {
		return refuse(api.ErrObject)
	}
	b := all[count(m)-1]
	if m.Kind == api.OABlock {
		return byChars(b.open.at, b.shut.end)
	}
	head, foot := d.of(b.open.at), d.of(b.shut.at)
	indent := slices.IndexFunc(d.spots[foot], func(s spot) bool { return d.kind(s) != glyph.Blank })
	switch {
	case head == foot, d.lines[head].To != b.open.end, d.spots[foot][indent] != b.shut:
		return byChars(b.open.end, b.shut.at)
	case head+1 == foot:
		return byChars(b.open.end, b.open.end)
	}
	return byLines(d.lines[head+1].From, d.lines[foot].From)
}

func (d *doc) paras(at int, m api.Move) answer {
	if e := d.wrong(at, m, paraKinds, nil); e != api.OK {
		return refuse(e)
	}
	line := d.of(at)
	if line == d.count {
		return refuse(api.ErrObject)
	}
	var runs []run
	first := 0
	for i, l := range d.lines[:d.count] {
		bare := !slices.ContainsFunc(d.spots[i], func(s spot) bool { return d.kind(s) != glyph.Blank })
		if i == 0 || bare != runs[len(runs)-1].blank {
			runs = append(runs, run{l.From, l.Next, bare})
		}
		runs[len(runs)-1].to = l.Next
		if i == line {
			first = len(runs) - 1
		}
	}
	from, to, ok := around(runs, first, count(m), m.Kind == api.OAPara)
	if !ok {
		return refuse(api.ErrObject)
	}
	return byLines(from, to)
}

func (d *doc) take(at int, m api.Move) answer {
	switch {
	case slices.Contains(wordKinds, m.Kind):
		return d.words(at, m)
	case slices.Contains(quoteKinds, m.Kind):
		return d.quotes(at, m)
	case slices.Contains(blockKinds, m.Kind):
		return d.block(at, m)
	case slices.Contains(paraKinds, m.Kind):
		return d.paras(at, m)
	}
	return refuse(api.ErrArg)
}
