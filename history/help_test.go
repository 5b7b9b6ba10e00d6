package history_test

import (
	"maps"
	"math/rand"
	"slices"
	"testing"

	"copyist/api"
	"copyist/codec"
	"copyist/history"
	"copyist/piece"
)

var encodings = []int{api.UTF8, api.UTF16LE, api.UTF16BE, api.Latin1}

// scene is the part of a Book that a group takes back whole: plain lists.
type scene struct {
	atoms, tags []int
	state       int
	marks       map[int]int
	watched     []int
}

func (s scene) clone() scene {
	s.atoms, s.tags, s.watched = slices.Clone(s.atoms), slices.Clone(s.tags), slices.Clone(s.watched)
	s.marks = maps.Clone(s.marks)
	return s
}

// deed is a group of the model: both its ends, and its Changes one by one.
type deed struct {
	begin, end     scene
	beginAt, endAt int
	changes        [][]api.Edit
	changed        bool
}

// model is the chapter read a second time: every state is kept in whole lists, and offsets go with one edit at a time.
type model struct {
	enc, limit, depth int
	now               scene
	undo, redo        []deed // redo: the first to be done again comes first
	open              *deed
	newest, saved     int
}

func modelOf(enc int, b []byte, limit, depth int) *model {
	m := &model{enc: enc, limit: limit, depth: depth, now: scene{marks: map[int]int{}}}
	m.now.atoms, _ = codec.Decode(enc, b)
	at := 0
	for _, a := range m.now.atoms {
		m.now.tags = append(m.now.tags, at)
		at += codec.Size(enc, a)
	}
	return m
}

func (m *model) outside(at int) bool { return at < 0 || at > len(m.now.atoms) }

// goes is where an offset goes with one edit, and whether its atom was taken away: the three cases of P709.
func goes(m, from, to, n int) (int, bool) {
	switch {
	case m < from:
		return m, false
	case m >= to:
		return m + n - (to - from), false
	case m-from < n:
		return m, true
	}
	return from + n, true
}

// follow: each edit is reckoned with, the last one first.
func (s *scene) follow(edits []api.Edit) {
	for i := len(edits) - 1; i >= 0; i-- {
		from, to, n := edits[i].From, edits[i].To, len(edits[i].Put)
		for name := range s.marks {
			s.marks[name], _ = goes(s.marks[name], from, to, n)
		}
		for k, at := range s.watched {
			next, gone := goes(at, from, to, n)
			if at == -1 || gone {
				next = -1
			}
			s.watched[k] = next
		}
	}
}

// inverse is the Change that takes edits back, as far as offsets feel it.
func inverse(edits []api.Edit) []api.Edit {
	var back []api.Edit
	for i, e := range edits {
		from := e.From
		for _, ahead := range edits[:i] {
			from += len(ahead.Put) - (ahead.To - ahead.From)
		}
		back = append(back, api.Edit{From: from, To: from + len(e.Put), Put: make([]int, e.To-e.From)})
	}
	return back
}

func (m *model) begin(at int) api.Errno {
	if m.open != nil {
		return api.ErrOpen
	}
	if m.outside(at) {
		return api.ErrRange
	}
	m.open = &deed{begin: m.now.clone(), beginAt: at}
	return api.OK
}

// refuse tells the errors of piece's Change.
func (m *model) refuse(edits []api.Edit) api.Errno {
	if len(edits) > api.MaxEdits {
		return api.ErrLong
	}
	least, size := 0, 0
	for _, e := range edits {
		if e.From < least || e.To < e.From || e.To > len(m.now.atoms) {
			return api.ErrRange
		}
		least = e.To
	}
	for _, a := range m.now.atoms {
		size += codec.Size(m.enc, a)
	}
	for _, e := range edits {
		for _, a := range e.Put {
			if !codec.Fits(m.enc, a) {
				return api.ErrFit
			}
			size += codec.Size(m.enc, a)
		}
		for _, a := range m.now.atoms[e.From:e.To] {
			size -= codec.Size(m.enc, a)
		}
	}
	if size > m.limit {
		return api.ErrFull
	}
	return api.OK
}

func (m *model) change(edits []api.Edit) api.Errno {
	if m.open == nil {
		return api.ErrShut
	}
	if e := m.refuse(edits); e != api.OK {
		return e
	}
	for i := len(edits) - 1; i >= 0; i-- {
		e := edits[i]
		none := slices.Repeat([]int{-1}, len(e.Put))
		m.now.atoms = slices.Concat(m.now.atoms[:e.From], e.Put, m.now.atoms[e.To:])
		m.now.tags = slices.Concat(m.now.tags[:e.From], none, m.now.tags[e.To:])
		m.open.changed = m.open.changed || e.From < e.To || len(e.Put) > 0
	}
	m.now.follow(edits)
	m.open.changes = append(m.open.changes, slices.Clone(edits))
	return api.OK
}

func (m *model) end(at int) api.Errno {
	if m.open == nil {
		return api.ErrShut
	}
	if m.outside(at) {
		return api.ErrRange
	}
	if m.open.changed {
		m.newest++
		m.now.state = m.newest
		m.open.end, m.open.endAt = m.now.clone(), at
		m.undo, m.redo = append(m.undo, *m.open), nil
		if len(m.undo) > m.depth {
			m.undo = m.undo[1:]
		}
	}
	m.open = nil
	return api.OK
}

func (m *model) drop() (int, api.Errno) {
	if m.open == nil {
		return 0, api.ErrShut
	}
	at := m.open.beginAt
	m.now, m.open = m.open.begin, nil
	return at, api.OK
}

// take gives the text and the state of a scene back; marks and watched offsets stay as they are now.
func (m *model) take(s scene) {
	m.now.atoms, m.now.tags, m.now.state = slices.Clone(s.atoms), slices.Clone(s.tags), s.state
}

func (m *model) undoOne() (int, api.Errno) {
	if m.open != nil {
		return 0, api.ErrOpen
	}
	if len(m.undo) == 0 {
		return 0, api.ErrOldest
	}
	g := m.undo[len(m.undo)-1]
	m.undo, m.redo = m.undo[:len(m.undo)-1], slices.Insert(m.redo, 0, g)
	for i := len(g.changes) - 1; i >= 0; i-- {
		m.now.follow(inverse(g.changes[i]))
	}
	m.take(g.begin)
	return g.beginAt, api.OK
}

func (m *model) redoOne() (int, api.Errno) {
	if m.open != nil {
		return 0, api.ErrOpen
	}
	if len(m.redo) == 0 {
		return 0, api.ErrNewest
	}
	g := m.redo[0]
	m.undo, m.redo = append(slices.Clone(m.undo), g), m.redo[1:]
	for _, edits := range g.changes {
		m.now.follow(edits)
	}
	m.take(g.end)
	return g.endAt, api.OK
}

func isName(name int) bool {
	return slices.Contains([]int{39, 60, 62}, name) || name >= 97 && name <= 122
}

func (m *model) setMark(name, at int) api.Errno {
	if !isName(name) {
		return api.ErrMark
	}
	if m.outside(at) {
		return api.ErrRange
	}
	m.now.marks[name] = at
	return api.OK
}

func (m *model) watch(offsets []int) api.Errno {
	if slices.ContainsFunc(offsets, m.outside) {
		return api.ErrRange
	}
	m.now.watched = slices.Clone(offsets)
	return api.OK
}

func (m *model) save() {
	if m.open == nil {
		m.saved = m.now.state
	}
}

func (m *model) dirty() bool {
	return m.open != nil && m.open.changed || m.now.state != m.saved
}

// same holds all that a Book tells against the model.
func same(t *testing.T, b *history.Book, text *piece.Text, m *model) {
	t.Helper()
	n := len(m.now.atoms)
	if b.Text() != text || text.Len() != n || !slices.Equal(text.Atoms(0, n), m.now.atoms) || !slices.Equal(text.Tags(0, n), m.now.tags) {
		t.Fatalf("text %v, tags %v; want %v, %v", text.Atoms(0, n), text.Tags(0, n), m.now.atoms, m.now.tags)
	}
	if text.Enc() != m.enc {
		t.Fatalf("encoding %d; want %d", text.Enc(), m.enc)
	}
	if undo, redo := b.Depth(); undo != len(m.undo) || redo != len(m.redo) {
		t.Fatalf("Depth %d, %d; want %d, %d", undo, redo, len(m.undo), len(m.redo))
	}
	if b.IsOpen() != (m.open != nil) || b.Dirty() != m.dirty() {
		t.Fatalf("IsOpen %v, Dirty %v; want %v, %v", b.IsOpen(), b.Dirty(), m.open != nil, m.dirty())
	}
	if !slices.Equal(b.Watched(), m.now.watched) {
		t.Fatalf("Watched %v; want %v", b.Watched(), m.now.watched)
	}
	sameMarks(t, b, m)
}

func sameMarks(t *testing.T, b *history.Book, m *model) {
	t.Helper()
	var want [][2]int
	for name := range 128 {
		at, ok := m.now.marks[name]
		got, e := b.Mark(name)
		if ok {
			want = append(want, [2]int{name, at})
		}
		if got != at || (e == api.OK) != ok || !ok && e != api.ErrMark {
			t.Fatalf("Mark(%d): %d, %d; want %d, %v", name, got, e, at, ok)
		}
	}
	if !slices.Equal(b.Marks(), want) {
		t.Fatalf("Marks %v; want %v", b.Marks(), want)
	}
}

// pair is a Book beside its model: each call is done to both, and everything is held against one another behind it.
type pair struct {
	t    *testing.T
	b    *history.Book
	text *piece.Text // asked for at the very beginning
	m    *model
}

func open(t *testing.T, enc int, b []byte, limit, depth int) *pair {
	t.Helper()
	book, e := history.Open(enc, b, limit, depth)
	if book == nil || e != api.OK {
		t.Fatalf("Open(%d, %x, %d, %d): %d", enc, b, limit, depth, e)
	}
	p := &pair{t, book, book.Text(), modelOf(enc, b, limit, depth)}
	same(t, p.b, p.text, p.m)
	return p
}

// load opens a Book of atoms, with room enough.
func load(t *testing.T, enc int, s string, depth int) *pair {
	t.Helper()
	var atoms []int
	for _, c := range s {
		atoms = append(atoms, int(c))
	}
	b, at, e := codec.Encode(enc, atoms)
	if e != api.OK {
		t.Fatalf("encoding %d has no bytes for the atom at %d", enc, at)
	}
	return open(t, enc, b, api.MaxBytes, depth)
}

// agree checks one call: its answers, then the whole Book.
func (p *pair) agree(what string, got, want int, e, f api.Errno) {
	p.t.Helper()
	if got != want || e != f {
		p.t.Fatalf("%s: %d, %d; want %d, %d", what, got, e, want, f)
	}
	same(p.t, p.b, p.text, p.m)
}

func (p *pair) begin(at int) api.Errno {
	p.t.Helper()
	e := p.b.Begin(at)
	p.agree("Begin", 0, 0, e, p.m.begin(at))
	return e
}

func (p *pair) change(edits ...api.Edit) api.Errno {
	p.t.Helper()
	e := p.b.Change(edits)
	p.agree("Change", 0, 0, e, p.m.change(edits))
	return e
}

func (p *pair) end(at int) api.Errno {
	p.t.Helper()
	e := p.b.End(at)
	p.agree("End", 0, 0, e, p.m.end(at))
	return e
}

func (p *pair) drop() (int, api.Errno) {
	p.t.Helper()
	at, e := p.b.Drop()
	want, f := p.m.drop()
	p.agree("Drop", at, want, e, f)
	return at, e
}

func (p *pair) undo() (int, api.Errno) {
	p.t.Helper()
	at, e := p.b.Undo()
	want, f := p.m.undoOne()
	p.agree("Undo", at, want, e, f)
	return at, e
}

func (p *pair) redo() (int, api.Errno) {
	p.t.Helper()
	at, e := p.b.Redo()
	want, f := p.m.redoOne()
	p.agree("Redo", at, want, e, f)
	return at, e
}

func (p *pair) mark(name, at int) api.Errno {
	p.t.Helper()
	e := p.b.SetMark(name, at)
	p.agree("SetMark", 0, 0, e, p.m.setMark(name, at))
	return e
}

func (p *pair) watch(offsets ...int) api.Errno {
	p.t.Helper()
	e := p.b.Watch(offsets)
	p.agree("Watch", 0, 0, e, p.m.watch(offsets))
	return e
}

func (p *pair) saved() {
	p.t.Helper()
	p.b.Saved()
	p.m.save()
	same(p.t, p.b, p.text, p.m)
}

// group is a whole group of one Change.
func (p *pair) group(edits ...api.Edit) {
	p.t.Helper()
	p.begin(0)
	p.change(edits...)
	p.end(p.text.Len())
}

// told is a plain want, written out in a test: so that no test leans on the model alone.
func (p *pair) told(text string, tags ...int) {
	p.t.Helper()
	got := ""
	for _, a := range p.text.Atoms(0, p.text.Len()) {
		got += string(rune(a))
	}
	if got != text || !slices.Equal(p.text.Tags(0, p.text.Len()), tags) {
		p.t.Fatalf("text %q, tags %v; want %q, %v", got, p.text.Tags(0, p.text.Len()), text, tags)
	}
}

func (p *pair) depth(undo, redo int, dirty bool) {
	p.t.Helper()
	if u, r := p.b.Depth(); u != undo || r != redo || p.b.Dirty() != dirty {
		p.t.Fatalf("Depth %d, %d, Dirty %v; want %d, %d, %v", u, r, p.b.Dirty(), undo, redo, dirty)
	}
}

// marks wants names and offsets in turns.
func (p *pair) marks(want ...int) {
	p.t.Helper()
	var got []int
	for _, m := range p.b.Marks() {
		got = append(got, m[0], m[1])
	}
	if !slices.Equal(got, want) {
		p.t.Fatalf("Marks %v; want %v", got, want)
	}
}

func (p *pair) watched(want ...int) {
	p.t.Helper()
	if !slices.Equal(p.b.Watched(), want) {
		p.t.Fatalf("Watched %v; want %v", p.b.Watched(), want)
	}
}

func is(t *testing.T, what string, e, want api.Errno) {
	t.Helper()
	if e != want {
		t.Fatalf("%s: %d; want %d", what, e, want)
	}
}

func answers(t *testing.T, what string, at int, e api.Errno, want int) {
	t.Helper()
	if at != want || e != api.OK {
		t.Fatalf("%s: %d, %d; want %d", what, at, e, want)
	}
}

func put(from, to int, s string) api.Edit {
	e := api.Edit{From: from, To: to}
	for _, c := range s {
		e.Put = append(e.Put, int(c))
	}
	return e
}

// someAtom gives one that fits, of every kind that the encoding has.
func someAtom(enc int, r *rand.Rand) int {
	for {
		a := []int{'a' + r.Intn(26), 10, 13, r.Intn(256), 0x100 + r.Intn(0x1000), 0x10000 + r.Intn(0x1000), 0xD800 + r.Intn(0x800), -1 - r.Intn(256)}[r.Intn(8)]
		if codec.Fits(enc, a) {
			return a
		}
	}
}

func someAtoms(enc, n int, r *rand.Rand) []int {
	var atoms []int
	for range n {
		atoms = append(atoms, someAtom(enc, r))
	}
	return atoms
}

// someEdits gives good ones for a text of n atoms: touching ones, empty ones, several at one place.
func someEdits(enc, n int, r *rand.Rand) []api.Edit {
	var edits []api.Edit
	at := 0
	for range r.Intn(5) {
		from := min(at+r.Intn(1+r.Intn(6)), n)
		to := min(from+r.Intn(1+r.Intn(5)), n)
		edits = append(edits, api.Edit{From: from, To: to, Put: someAtoms(enc, r.Intn(1+r.Intn(5)), r)})
		at = to
	}
	return edits
}
