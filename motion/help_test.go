package motion_test

import (
	"slices"
	"testing"

	"copyist/api"
	"copyist/cluster"
	"copyist/codec"
	"copyist/glyph"
	"copyist/piece"
)

var encodings = []int{api.UTF8, api.UTF16LE, api.UTF16BE, api.Latin1}

// The encodings that have accents: in Latin1 every cluster but CRLF is one atom.
var wide = []int{api.UTF8, api.UTF16LE, api.UTF16BE}

func spell(s string) []int {
	var atoms []int
	for _, c := range s {
		atoms = append(atoms, int(c))
	}
	return atoms
}

// load opens a text that has these atoms, loaded ones.
func load(t *testing.T, enc int, atoms []int) *piece.Text {
	t.Helper()
	b, at, e := codec.Encode(enc, atoms)
	if e != api.OK {
		t.Fatalf("encoding %d has no bytes for the atom at %d", enc, at)
	}
	x, e := piece.Open(enc, b, api.MaxBytes)
	if e != api.OK {
		t.Fatalf("Open: %d", e)
	}
	if got := x.Atoms(0, x.Len()); !slices.Equal(got, atoms) {
		t.Fatalf("%v is read as %v", atoms, got)
	}
	return x
}

// typed opens a text into which these atoms were put, one by one, the last first.
func typed(t *testing.T, enc int, atoms []int) *piece.Text {
	t.Helper()
	x, _ := piece.Open(enc, nil, api.MaxBytes)
	for k := len(atoms) - 1; k >= 0; k-- {
		if e := x.Change([]api.Edit{{Put: atoms[k : k+1]}}); e != api.OK {
			t.Fatalf("the atom %d does not go into encoding %d: %d", atoms[k], enc, e)
		}
	}
	return x
}

func mv(kind, count, arg int) api.Move { return api.Move{Kind: kind, Count: count, Arg: arg} }

func land(at, kind, goal int) api.Land { return api.Land{At: at, Kind: kind, Goal: goal} }

// short gives all texts of some letters with up to so many of them.
func short(letters string, most int) [][]int {
	all := [][]int{nil}
	for from := 0; len(all[from]) < most; from++ {
		for _, c := range letters {
			all = append(all, append(slices.Clone(all[from]), int(c)))
		}
	}
	return all
}

// doc is the chapter read a second time: whole lists of all lines, of all their clusters, of all words.
type doc struct {
	atoms  []int
	lines  []api.Line // behind the last one the tail, if there is one
	count  int
	bounds [][]int // of each of the lines: the boundaries of its clusters, as offsets of the text
	small  []word
	large  []word
}

func read(atoms []int) *doc {
	d := &doc{atoms: atoms}
	n, from := len(atoms), 0
	for k := 0; k < n; k++ {
		next := k + 1
		if atoms[k] == 13 && next < n && atoms[next] == 10 {
			next++
		}
		if atoms[k] == 13 || atoms[k] == 10 {
			d.lines = append(d.lines, api.Line{From: from, To: k, Next: next})
			from, k = next, next-1
		}
	}
	d.count = len(d.lines)
	if n == 0 || from < n {
		d.count++
	}
	d.lines = append(d.lines, api.Line{From: from, To: n, Next: n}) // the last line, or the tail
	for _, l := range d.lines {
		bounds := cluster.Breaks(atoms[l.From:l.To])
		for i := range bounds {
			bounds[i] += l.From
		}
		d.bounds = append(d.bounds, bounds)
	}
	d.small, d.large = d.words(false), d.words(true)
	return d
}

func (d *doc) clip(at int) int { return min(max(at, 0), len(d.atoms)) }

func (d *doc) of(at int) int {
	for i, l := range d.lines {
		if d.clip(at) < l.Next {
			return i
		}
	}
	return len(d.lines) - 1
}

func (d *doc) ofOrLast(at int) int { return min(d.of(at), d.count-1) }

// begins tells where the clusters of a line begin.
func (d *doc) begins(line int) []int { return d.bounds[line][:len(d.bounds[line])-1] }

func (d *doc) lastPlace(line int) int {
	if b := d.begins(line); len(b) > 0 {
		return b[len(b)-1]
	}
	return d.lines[line].From
}

func (d *doc) firstSign(line int) int {
	for _, at := range d.begins(line) {
		if glyph.Word(d.atoms[at]) != glyph.Blank {
			return at
		}
	}
	return d.lastPlace(line)
}

func (d *doc) clamp(at int, past bool) int {
	at = d.clip(at)
	line := d.of(at)
	if !past {
		line = d.ofOrLast(at)
	}
	if at >= d.lines[line].To {
		if past {
			return d.lines[line].To
		}
		return d.lastPlace(line)
	}
	best := d.lines[line].From
	for _, b := range d.bounds[line] {
		if b <= at {
			best = b
		}
	}
	return best
}

func (d *doc) column(at int) int {
	col := 0
	for i, b := range d.bounds[d.of(at)] {
		if i > 0 && b <= d.clip(at) {
			col++
		}
	}
	return col
}

func (d *doc) place(line, col int, past bool) int {
	line, col = min(max(line, 0), d.count-1), max(col, 0)
	b := d.begins(line)
	switch {
	case len(b) > col:
		return b[col]
	case past:
		return d.lines[line].To
	}
	return d.lastPlace(line)
}

func count(m api.Move) (k int, given bool) {
	if m.Count < 1 {
		return 1, false
	}
	return min(m.Count, api.MaxCount), true
}

type answer struct {
	land api.Land
	err  api.Errno
}

func refuse(e api.Errno) answer { return answer{err: e} }

func (d *doc) lands(at, kind int) answer { return answer{land: land(at, kind, d.column(at))} }

func (d *doc) chars(at int, m api.Move, past bool) answer {
	s := d.clamp(at, past)
	k, _ := count(m)
	line := d.of(s)
	cols := d.bounds[line]
	c, n := d.column(s), len(cols)-1
	most := n
	if !past {
		most = max(n-1, 0)
	}
	switch m.Kind {
	case api.MLeft:
		if c == 0 {
			return refuse(api.ErrMove)
		}
		return d.lands(cols[max(c-k, 0)], api.Exclusive)
	case api.MRight:
		if c == most {
			return refuse(api.ErrMove)
		}
		return d.lands(cols[min(c+k, most)], api.Exclusive)
	case api.MStart:
		return d.lands(cols[0], api.Exclusive)
	case api.MFirst:
		return d.lands(d.firstSign(line), api.Exclusive)
	case api.MEnd:
		if line < d.count {
			line = min(line+k-1, d.count-1)
		}
		return answer{land: land(d.lastPlace(line), api.Inclusive, api.MaxCol)}
	case api.MBar:
		return d.lands(cols[min(k-1, most)], api.Exclusive)
	}
	return d.finds(m, cols, c, k)
}

func (d *doc) finds(m api.Move, cols []int, c, k int) answer {
	var found []int // columns
	for i := range cols[:len(cols)-1] {
		if d.atoms[cols[i]] == m.Arg {
			found = append(found, i)
		}
	}
	back := m.Kind == api.MFindBack || m.Kind == api.MTillBack
	found = slices.DeleteFunc(found, func(i int) bool { return back && i >= c || !back && i <= c })
	if back {
		slices.Reverse(found)
	}
	switch m.Kind {
	default:
		return refuse(api.ErrArg)
	case api.MFind, api.MTill, api.MFindBack, api.MTillBack:
	}
	if len(found) < k {
		return refuse(api.ErrMove)
	}
	i := found[k-1]
	switch m.Kind {
	case api.MFind:
		return d.lands(cols[i], api.Inclusive)
	case api.MTill:
		return d.lands(cols[i-1], api.Inclusive)
	case api.MFindBack:
		return d.lands(cols[i], api.Exclusive)
	}
	return d.lands(cols[i+1], api.Exclusive)
}

func (d *doc) rows(at, goal int, m api.Move) answer {
	i, last := d.of(d.clamp(at, false)), d.count-1
	k, given := count(m)
	goal = max(goal, 0)
	line, err := 0, false
	switch m.Kind {
	case api.MDown, api.MNextRow:
		line, err = i+k, i == last
	case api.MUp, api.MPrevRow:
		line, err = i-k, i == 0
	case api.MHere:
		line = i + k - 1
	case api.MGoto:
		line = last
		if given {
			line = k - 1
		}
	case api.MTopRow:
		line = k - 1
	case api.MPercent:
		line, err = (k*d.count+99)/100-1, !given || k > 100
	default:
		return refuse(api.ErrArg)
	}
	if err {
		return refuse(api.ErrMove)
	}
	line = min(max(line, 0), last)
	if m.Kind == api.MDown || m.Kind == api.MUp {
		return answer{land: land(d.place(line, goal, false), api.Linewise, goal)}
	}
	return d.lands(d.firstSign(line), api.Linewise)
}

type word struct {
	begin, end int
	empty      bool
}

func (d *doc) words(big bool) []word {
	kind := func(at int) int {
		k := glyph.Word(d.atoms[at])
		if big && k != glyph.Blank {
			return glyph.Letter
		}
		return k
	}
	var out []word
	for line := range d.count {
		b := d.begins(line)
		if len(b) == 0 {
			from := d.lines[line].From
			out = append(out, word{from, from, true})
		}
		for i := 0; i < len(b); {
			j := i
			for j+1 < len(b) && kind(b[j+1]) == kind(b[i]) {
				j++
			}
			if kind(b[i]) != glyph.Blank {
				out = append(out, word{b[i], b[j], false})
			}
			i = j + 1
		}
	}
	return out
}

func isBig(kind int) bool {
	return slices.Contains([]int{api.MBigWord, api.MBigBack, api.MBigEnd, api.MBigBackEnd, api.MBigRest}, kind)
}

// wordPlaces tells all offsets that a motion by words may go to, in the order in which it counts them.
func (d *doc) wordPlaces(s int, kind int) []int {
	words := d.small
	if isBig(kind) {
		words = d.large
	}
	var above, below []int
	for _, w := range words {
		switch kind {
		case api.MWord, api.MBigWord:
			if w.begin > s {
				above = append(above, w.begin)
			}
		case api.MBack, api.MBigBack:
			if w.begin < s {
				below = append(below, w.begin)
			}
		case api.MWordEnd, api.MBigEnd:
			if w.end > s && !w.empty {
				above = append(above, w.end)
			}
		case api.MBackEnd, api.MBigBackEnd:
			if w.end < s {
				below = append(below, w.end)
			}
		case api.MRest, api.MBigRest:
			if w.end >= s && !w.empty {
				above = append(above, w.end)
			}
		}
	}
	slices.Reverse(below)
	return append(above, below...)
}

func (d *doc) wordMove(at int, m api.Move, past bool) answer {
	s := d.clamp(at, past)
	k, _ := count(m)
	kind, short := api.Exclusive, 0
	switch m.Kind {
	case api.MWord, api.MBigWord:
		short = d.lastPlace(d.count - 1)
		if past {
			short = d.lines[d.count-1].To
		}
	case api.MBack, api.MBigBack:
	case api.MBackEnd, api.MBigBackEnd:
		kind = api.Inclusive
	case api.MWordEnd, api.MBigEnd, api.MRest, api.MBigRest:
		kind, short = api.Inclusive, d.lastPlace(d.count-1)
	default:
		return refuse(api.ErrArg)
	}
	rest := m.Kind == api.MRest || m.Kind == api.MBigRest
	if all := d.wordPlaces(s, m.Kind); len(all) >= k {
		return d.lands(all[k-1], kind)
	}
	back := m.Kind == api.MBack || m.Kind == api.MBigBack || m.Kind == api.MBackEnd || m.Kind == api.MBigBackEnd
	switch {
	case rest:
		return d.lands(max(short, s), kind)
	case short == s, !back && short < s:
		return refuse(api.ErrMove)
	}
	return d.lands(short, kind)
}

func (d *doc) blank(line int) bool {
	for _, at := range d.begins(line) {
		if glyph.Word(d.atoms[at]) != glyph.Blank {
			return false
		}
	}
	return true
}

func (d *doc) paras(at int, m api.Move) answer {
	s := d.clamp(at, false)
	i := d.of(s)
	k, _ := count(m)
	switch m.Kind {
	case api.MParaNext:
		for j := i + 1; j < d.count; j++ {
			if d.blank(j) && !d.blank(j-1) {
				if k--; k == 0 {
					return d.lands(d.lines[j].From, api.Exclusive)
				}
			}
		}
		to := d.lastPlace(d.count - 1)
		if to == s {
			return refuse(api.ErrMove)
		}
		return d.lands(to, api.Inclusive)
	case api.MParaPrev:
		for j := i - 1; j >= 0; j-- {
			if d.blank(j) && !d.blank(j+1) {
				if k--; k == 0 {
					return d.lands(d.lines[j].From, api.Exclusive)
				}
			}
		}
		if s == 0 {
			return refuse(api.ErrMove)
		}
		return d.lands(0, api.Exclusive)
	case api.MMatch:
		return d.match(s)
	}
	return refuse(api.ErrArg)
}

type bracket struct {
	at, pair int
	opens    bool
}

func (d *doc) brackets() []bracket {
	var out []bracket
	for line := range d.count {
		for i, at := range d.begins(line) {
			if d.bounds[line][i+1] != at+1 {
				continue
			}
			if pair := slices.Index(spell("()[]{}"), d.atoms[at]); pair >= 0 {
				out = append(out, bracket{at, pair / 2, pair%2 == 0})
			}
		}
	}
	return out
}

func (d *doc) match(s int) answer {
	all := d.brackets()
	first := slices.IndexFunc(all, func(b bracket) bool { return b.at >= s && d.of(b.at) == d.of(s) })
	if first < 0 {
		return refuse(api.ErrMove)
	}
	step := 1
	if !all[first].opens {
		step = -1
	}
	opening, closing := 0, 0
	for i := first; i >= 0 && i < len(all); i += step {
		if all[i].pair != all[first].pair {
			continue
		}
		if all[i].opens {
			opening++
		} else {
			closing++
		}
		if opening == closing {
			return d.lands(all[i].at, api.Inclusive)
		}
	}
	return refuse(api.ErrMove)
}

func (d *doc) between(a, b, kind int) (api.Span, api.Errno) {
	a, b = d.clamp(a, true), d.clamp(b, true)
	lo, hi := min(a, b), max(a, b)
	line := d.of(hi)
	switch kind {
	case api.Exclusive:
		if hi == d.lines[line].From && d.of(lo) < line {
			hi = d.lines[line-1].To
		}
		return api.Span{From: lo, To: hi}, api.OK
	case api.Inclusive:
		if i := slices.Index(d.begins(line), hi); i >= 0 {
			hi = d.bounds[line][i+1]
		}
		return api.Span{From: lo, To: hi}, api.OK
	case api.Linewise:
		return api.Span{From: d.lines[d.ofOrLast(lo)].From, To: d.lines[d.ofOrLast(hi)].Next, Kind: api.ByLines}, api.OK
	}
	return api.Span{}, api.ErrArg
}

func (d *doc) reach(at int, m api.Move) (api.Span, api.Errno) {
	s := d.clamp(at, false)
	if m.Kind == api.MLines {
		m.Kind = api.MHere
	}
	a := d.chars(s, m, true)
	if a.err == api.ErrArg {
		a = d.rows(s, d.column(s), m)
	}
	if a.err == api.ErrArg {
		a = d.wordMove(s, m, true)
	}
	if a.err == api.ErrArg {
		a = d.paras(s, m)
	}
	if a.err != api.OK {
		return api.Span{}, a.err
	}
	if m.Kind == api.MWord || m.Kind == api.MBigWord {
		p := s
		all := d.wordPlaces(s, m.Kind)
		if k, _ := count(m); k > 1 && len(all) > 0 {
			p = all[min(k-1, len(all))-1]
		}
		if d.of(a.land.At) > d.of(p) {
			return api.Span{From: s, To: d.lines[d.of(p)].To}, api.OK
		}
	}
	return d.between(s, a.land.At, a.land.Kind)
}
