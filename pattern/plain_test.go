package pattern_test

import (
	"iter"
	"slices"

	"copyist/api"
	"copyist/glyph"
)

// The chapter read a second time: a pattern as a tree, its ways as lists that are gone through one by one, whatever that costs.

type tree interface {
	ways(l *plainLine, i int) iter.Seq[way]
	parts() float64 // no limit is near
}

type (
	rows    []tree
	members []tree
	bracket struct {
		number int // 0: it has none
		inner  tree
	}
	repeat struct {
		thing       tree
		least, most int // most -1: without end
		few         bool
	}
	single struct {
		takes func(atom int) bool
		not   bool
	}
	brink rune // ^ $ < >
)

// way is one of a list of ways.
type way struct {
	end    int
	groups [20]int
}

// plainLine is a line in which ways are sought; it gives up where that would take too long.
type plainLine struct {
	ints   []int
	ignore bool
	steps  int
}

const mostSteps = 30000

func (l *plainLine) tooLong() bool { return l.steps > mostSteps }

func noGroups(end int) way { return way{end, match()} }

// behind joins two ways.
func (w way) behind(next way) way {
	w.end = next.end
	for g := 2; g < 20; g += 2 {
		if next.groups[g] >= 0 {
			w.groups[g], w.groups[g+1] = next.groups[g], next.groups[g+1]
		}
	}
	return w
}

func (x rows) ways(l *plainLine, i int) iter.Seq[way] {
	return func(yield func(way) bool) {
		for _, row := range x {
			for w := range row.ways(l, i) {
				if !yield(w) {
					return
				}
			}
		}
	}
}

func (x members) ways(l *plainLine, i int) iter.Seq[way] {
	return func(yield func(way) bool) {
		if len(x) == 0 {
			yield(noGroups(i))
			return
		}
		for w := range x[0].ways(l, i) {
			for next := range x[1:].ways(l, w.end) {
				if !yield(w.behind(next)) {
					return
				}
			}
		}
	}
}

func (x bracket) ways(l *plainLine, i int) iter.Seq[way] {
	return func(yield func(way) bool) {
		for w := range x.inner.ways(l, i) {
			if x.number > 0 {
				w.groups[2*x.number], w.groups[2*x.number+1] = i, w.end
			}
			if !yield(w) {
				return
			}
		}
	}
}

func (x repeat) ways(l *plainLine, i int) iter.Seq[way] { return x.from(l, 0, i) }

// from is the chapter's go(c, j).
func (x repeat) from(l *plainLine, c, j int) iter.Seq[way] {
	return func(yield func(way) bool) {
		if l.steps++; l.tooLong() {
			return
		}
		if c >= x.least && x.few && !yield(noGroups(j)) {
			return
		}
		if c < x.least || x.most < 0 || c < x.most {
			for w := range x.thing.ways(l, j) {
				if c >= x.least && w.end == j {
					continue
				}
				for next := range x.from(l, c+1, w.end) {
					if !yield(w.behind(next)) {
						return
					}
				}
			}
		}
		if c >= x.least && !x.few {
			yield(noGroups(j))
		}
	}
}

func (x single) ways(l *plainLine, i int) iter.Seq[way] {
	return func(yield func(way) bool) {
		if l.steps++; !l.tooLong() && i < len(l.ints) && x.takesIn(l.ints[i], l.ignore) {
			yield(noGroups(i + 1))
		}
	}
}

func (x single) takesIn(atom int, ignore bool) bool {
	in := x.takes(atom)
	if ignore {
		in = in || x.takes(glyph.Lower(atom)) || x.takes(glyph.Upper(atom))
	}
	return in != x.not
}

func (x brink) ways(l *plainLine, i int) iter.Seq[way] {
	isWord := func(i int) bool { return i >= 0 && i < len(l.ints) && glyph.Word(l.ints[i]) == glyph.Letter }
	holds := false
	switch x {
	case '^':
		holds = i == 0
	case '$':
		holds = i == len(l.ints)
	case '<':
		holds = isWord(i) && !isWord(i-1)
	case '>':
		holds = isWord(i-1) && !isWord(i)
	}
	return func(yield func(way) bool) {
		if holds {
			yield(noGroups(i))
		}
	}
}

func (x rows) parts() float64 { return members(x).parts() + float64(len(x)-1) }

func (x members) parts() float64 {
	sum := 0.0
	for _, m := range x {
		sum += m.parts()
	}
	return sum
}

func (x bracket) parts() float64 {
	if x.number > 0 {
		return x.inner.parts() + 2
	}
	return x.inner.parts()
}

func (x repeat) parts() float64 {
	n := x.most
	if n < 0 {
		n = x.least + 1
	}
	if n == 0 {
		n = 1
	}
	return float64(n)*x.thing.parts() + 1
}

func (single) parts() float64 { return 1 }

func (brink) parts() float64 { return 1 }

// plainMatch is P1006; known tells whether the plain reading came to an end.
func plainMatch(x tree, ignore bool, line []int, at int) (got [20]int, ok, known bool) {
	l := &plainLine{ints: line, ignore: ignore}
	for s := max(at, 0); s <= len(line); s++ {
		for w := range x.ways(l, s) {
			w.groups[0], w.groups[1] = s, w.end
			return w.groups, true, !l.tooLong()
		}
	}
	return [20]int{}, false, !l.tooLong()
}

// plainAll is P1007.
func plainAll(x tree, ignore bool, line []int) (all [][20]int, known bool) {
	for p := 0; p <= len(line); {
		m, ok, known := plainMatch(x, ignore, line, p)
		if !known || !ok {
			return all, known
		}
		f, t := m[0], m[1]
		if n := len(all); f != t || n == 0 || all[n-1][1] != f {
			all = append(all, m)
		}
		p = t
		if t == f {
			p = f + 1
		}
	}
	return all, true
}

// form reads a pattern by the grammar of P1001 and P1002. It tells no place: only whether the whole has the form, and where late rules are broken in it.
type form struct {
	src    []int
	groups int
	late   []int
}

// readPlain tells the tree of a pattern that has the form but for the late rules.
func readPlain(src []int) (tree, *form, bool) {
	f := &form{src: src}
	x, end := f.pattern(0)
	return x, f, end == len(src) && f.groups <= 9
}

const nowhere = -1

func (f *form) has(i int, s string) bool {
	if i < 0 || i+len(s) > len(f.src) {
		return false
	}
	for k := range len(s) {
		if f.src[i+k] != int(s[k]) {
			return false
		}
	}
	return true
}

// pattern answers where it ends, or nowhere.
func (f *form) pattern(i int) (tree, int) {
	var all rows
	for {
		row, end := f.row(i)
		all = append(all, row)
		if !f.has(end, `\|`) {
			return all, end
		}
		i = end + 2
	}
}

func (f *form) row(i int) (tree, int) {
	var all members
	for i < len(f.src) && !f.has(i, `\|`) && !f.has(i, `\)`) {
		m, end := f.member(i)
		if end == nowhere {
			return nil, nowhere
		}
		all, i = append(all, m), end
	}
	return all, i
}

func (f *form) member(i int) (tree, int) {
	for _, e := range []string{"^", "$", `\<`, `\>`} {
		if f.has(i, e) {
			return brink(e[len(e)-1]), i + len(e)
		}
	}
	x, end := f.thing(i)
	if end == nowhere {
		return nil, nowhere
	}
	return f.times(x, end)
}

func (f *form) thing(i int) (tree, int) {
	number, open := 0, `\%(`
	if f.has(i, `\(`) {
		f.groups++
		number, open = f.groups, `\(`
	}
	if !f.has(i, open) {
		return f.single(i)
	}
	x, end := f.pattern(i + len(open))
	if !f.has(end, `\)`) {
		return nil, nowhere
	}
	return bracket{number, x}, end + 2
}

func (f *form) times(x tree, i int) (tree, int) {
	switch {
	case f.has(i, `*`):
		return repeat{x, 0, -1, false}, i + 1
	case f.has(i, `\+`):
		return repeat{x, 1, -1, false}, i + 2
	case f.has(i, `\?`):
		return repeat{x, 0, 1, false}, i + 2
	case !f.has(i, `\{`):
		return x, i
	}
	i += 2
	r := repeat{x, 0, -1, f.has(i, "-")}
	if r.few {
		i++
	}
	number := func() (int, bool) {
		n, begin := 0, i
		for ; i < len(f.src) && '0' <= f.src[i] && f.src[i] <= '9'; i++ {
			n = min(n*10+f.src[i]-'0', 256)
		}
		return n, i > begin
	}
	least, given := number()
	if given {
		r.least, r.most = least, least
	}
	if f.has(i, ",") {
		i++
		if r.most, given = number(); !given {
			r.most = -1
		}
	}
	if !f.has(i, "}") || r.least > 255 || r.most > 255 {
		return nil, nowhere
	}
	if r.most >= 0 && r.least > r.most {
		f.late = append(f.late, i)
	}
	return r, i + 1
}

func one(atom int) single {
	return single{takes: func(a int) bool { return a == atom }}
}

// hexAt reads so many hexadecimal digits; -1: they are none.
func (f *form) hexAt(i, digits int) int {
	n := 0
	for k := i; k < i+digits; k++ {
		if k >= len(f.src) || f.src[k] < 0 || f.src[k] > 127 {
			return -1
		}
		d := slices.Index(spell("0123456789abcdef"), f.src[k]|32)
		if d < 0 || f.src[k] < '0' {
			return -1
		}
		n = n*16 + d
	}
	return n
}

// classes are the singles that are written by one letter and stand between brackets too.
var classes = map[string]func(a int) bool{
	`\d`: func(a int) bool { return a >= '0' && a <= '9' },
	`\s`: func(a int) bool { return a == 32 || a == 9 },
	`\w`: func(a int) bool { return glyph.Word(a) == glyph.Letter },
	`\l`: func(a int) bool { return glyph.Upper(a) != a },
	`\u`: func(a int) bool { return glyph.Lower(a) != a },
}

func (f *form) classAt(i int) (func(int) bool, bool) {
	for name, takes := range classes {
		if f.has(i, name) {
			return takes, true
		}
	}
	return nil, false
}

func (f *form) single(i int) (tree, int) {
	if takes, ok := f.classAt(i); ok {
		return single{takes: takes}, i + 2
	}
	switch {
	case f.has(i, `\D`):
		return single{classes[`\d`], true}, i + 2
	case f.has(i, `\S`):
		return single{classes[`\s`], true}, i + 2
	case f.has(i, `\W`):
		return single{classes[`\w`], true}, i + 2
	case f.has(i, "."):
		return single{takes: func(int) bool { return true }}, i + 1
	case f.has(i, `\t`):
		return one(9), i + 2
	case f.has(i, `\e`):
		return one(27), i + 2
	case f.has(i, `\x`):
		return f.number(i+2, 2, func(n int) int { return -1 - n })
	case f.has(i, `\%u`):
		return f.number(i+3, 4, func(n int) int { return n })
	case f.has(i, `\%U`):
		return f.number(i+3, 6, func(n int) int { return n })
	case f.has(i, `[^`):
		takes, end := f.items(i + 2)
		return single{takes, true}, end
	case f.has(i, `[`):
		takes, end := f.items(i + 1)
		return single{takes, false}, end
	case f.has(i, `\`):
		if i+1 == len(f.src) || slices.Contains(spell(`()|+?{<>%0123456789abcdefghijklmnopqrstuvwxyzABCDEFGHIJKLMNOPQRSTUVWXYZ`), f.src[i+1]) {
			return nil, nowhere
		}
		return one(f.src[i+1]), i + 2
	case i < len(f.src) && !slices.Contains(spell(`\.[*^$`), f.src[i]):
		return one(f.src[i]), i + 1
	}
	return nil, nowhere
}

func (f *form) number(i, digits int, atom func(int) int) (tree, int) {
	n := f.hexAt(i, digits)
	if n < 0 || n > 0x10FFFF {
		return nil, nowhere
	}
	return one(atom(n)), i + digits
}

// signAt reads a sign between brackets.
func (f *form) signAt(i int) (int, int) {
	if i >= len(f.src) {
		return 0, nowhere
	}
	if f.src[i] != '\\' {
		return f.src[i], i + 1
	}
	switch {
	case f.has(i, `\t`):
		return 9, i + 2
	case f.has(i, `\e`):
		return 27, i + 2
	case f.has(i, `\x`):
		if n := f.hexAt(i+2, 2); n >= 0 {
			return -1 - n, i + 4
		}
	case i+1 < len(f.src) && slices.Contains(spell(`\]^-`), f.src[i+1]):
		return f.src[i+1], i + 2
	}
	return 0, nowhere
}

func (f *form) items(i int) (func(int) bool, int) {
	var all []func(int) bool
	takes := func(a int) bool {
		return slices.ContainsFunc(all, func(item func(int) bool) bool { return item(a) })
	}
	for first := i; i == first || !f.has(i, "]"); {
		if c, ok := f.classAt(i); ok {
			all, i = append(all, c), i+2
			continue
		}
		a, end := f.signAt(i)
		if end == nowhere {
			return nil, nowhere
		}
		if !f.has(end, "-") || f.has(end, "-]") {
			all, i = append(all, one(a).takes), end
			continue
		}
		b, last := f.signAt(end + 1)
		if last == nowhere {
			return nil, nowhere
		}
		switch {
		case a >= 0 && b >= a:
			all = append(all, func(x int) bool { return a <= x && x <= b })
		case a < 0 && a >= -256 && b >= -256 && -1-a <= -1-b:
			all = append(all, func(x int) bool { return x < 0 && -1-a <= -1-x && -1-x <= -1-b })
		default:
			f.late = append(f.late, last-1)
		}
		i = last
	}
	return takes, i + 1
}

// plainOf reads a pattern that is well-formed.
func plainOf(src []int) tree {
	x, f, ok := readPlain(src)
	if !ok || len(f.late) > 0 {
		panic("ill-formed: " + text(src))
	}
	return x
}

// plainLines tells the contents of a text's lines, by DOC.md.
func plainLines(atoms []int) []api.Span {
	var all []api.Span
	from := 0
	for i := 0; i < len(atoms); i++ {
		if atoms[i] != 10 && atoms[i] != 13 {
			continue
		}
		all = append(all, api.Span{From: from, To: i})
		if atoms[i] == 13 && i+1 < len(atoms) && atoms[i+1] == 10 {
			i++
		}
		from = i + 1
	}
	if from < len(atoms) || from == 0 {
		all = append(all, api.Span{From: from, To: len(atoms)})
	}
	return all
}
