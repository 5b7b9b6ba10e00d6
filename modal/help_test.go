package modal_test

import (
	"maps"
	"slices"
	"testing"

	"copyist/api"
	"copyist/codec"
	"copyist/modal"
	"copyist/operate"
)

var encodings = []int{api.UTF8, api.UTF16LE, api.UTF16BE, api.Latin1}

var natives = []int{api.LF, api.CRLF, api.CR}

// spell is a text as its atoms.
func spell(s string) []int {
	list := []int{}
	for _, r := range s {
		list = append(list, int(r))
	}
	return list
}

// strokes are the keys of a text, in which some signs stand for keys that have none.
func strokes(s string) []int {
	list := spell(s)
	for i, k := range list {
		switch k {
		case '␛':
			list[i] = api.KeyEscape
		case '⏎':
			list[i] = api.KeyReturn
		case '⌫':
			list[i] = api.KeyBack
		case '⌦':
			list[i] = api.KeyDelete
		case '␕':
			list[i] = api.KeyCtrlU
		case '␖':
			list[i] = api.KeyCtrlV
		case '␗':
			list[i] = api.KeyCtrlW
		case '␒':
			list[i] = api.KeyCtrlR
		case '␆':
			list[i] = api.KeyCtrlF
		case '␂':
			list[i] = api.KeyCtrlB
		case '␄':
			list[i] = api.KeyCtrlD
		case '␅':
			list[i] = api.KeyCtrlE
		case '␙':
			list[i] = api.KeyCtrlY
		case '␊':
			list[i] = 10
		}
	}
	return list
}

// show is a list of atoms as a text, as far as it is one.
func show(atoms []int) string {
	s := ""
	for _, a := range atoms {
		s += string(rune(a))
	}
	return s
}

// state is all that a machine tells.
type state struct {
	api.Sight
	Marks      [][2]int
	Undo, Redo int
	Open       bool
	Regs       map[int]api.Reg
	Find       []int
	Sub        api.Sub
}

func stateOf(s api.Sight, d *operate.Desk) state {
	x := state{Sight: s, Marks: d.Book.Marks(), Open: d.Book.IsOpen(), Regs: map[int]api.Reg{}, Find: slices.Clone(d.Find), Sub: d.Sub}
	x.Undo, x.Redo = d.Book.Depth()
	x.Sub.Pat, x.Sub.Rep = slices.Clone(d.Sub.Pat), slices.Clone(d.Sub.Rep)
	for _, name := range append(d.Bank.Names(), 0) {
		if r, err := d.Bank.Get(name); err == api.OK {
			x.Regs[name] = r
		}
	}
	return x
}

func sameSight(a, b api.Sight) bool {
	return slices.Equal(a.Text, b.Text) && slices.Equal(a.Tags, b.Tags) && a.At == b.At && a.Mode == b.Mode && a.Anchor == b.Anchor &&
		slices.Equal(a.Pending, b.Pending) && slices.Equal(a.Line, b.Line) && a.Dirty == b.Dirty && a.Top == b.Top && a.Cell == b.Cell &&
		a.Percent == b.Percent && a.Record == b.Record && a.Set == b.Set
}

func sameReg(a, b api.Reg) bool { return a.Kind == b.Kind && slices.Equal(a.Text, b.Text) }

func (s state) equal(o state) bool {
	return sameSight(s.Sight, o.Sight) && slices.Equal(s.Marks, o.Marks) && s.Undo == o.Undo && s.Redo == o.Redo && s.Open == o.Open &&
		maps.EqualFunc(s.Regs, o.Regs, sameReg) && slices.Equal(s.Find, o.Find) &&
		slices.Equal(s.Sub.Pat, o.Sub.Pat) && slices.Equal(s.Sub.Rep, o.Sub.Rep) && s.Sub.Flags == o.Sub.Flags
}

// quiet is a state without what any key may change: the pending keys.
func (s state) quiet() state {
	s.Pending = nil
	return s
}

// pair is a machine beside the plain reading: each key is given to both, and all that they tell is held against one another.
type pair struct {
	t *testing.T
	m *modal.Machine
	p *plain
}

// setup is what a machine is made of.
type setup struct {
	enc, limit, native, depth, height int
}

var usual = setup{api.UTF8, 2000, api.LF, 50, 10}

func bytesOf(t *testing.T, enc int, atoms []int) []byte {
	t.Helper()
	b, at, err := codec.Encode(enc, atoms)
	if err != api.OK {
		t.Fatalf("encoding %d has no bytes for the atom %d", enc, atoms[at])
	}
	return b
}

// load makes a pair of a text, in UTF8, native LF, a window of ten rows.
func load(t *testing.T, text string) *pair {
	t.Helper()
	return usual.load(t, []byte(text))
}

func (s setup) load(t *testing.T, b []byte) *pair {
	t.Helper()
	m, err := modal.New(s.enc, b, s.limit, s.native, s.depth, s.height)
	if err != api.OK {
		t.Fatalf("New: %d", err)
	}
	p, _ := newPlain(s.enc, b, s.limit, s.native, s.depth, s.height)
	return &pair{t, m, p}
}

// high is the same with a window of so many rows.
func (s setup) high(height int) setup {
	s.height = height
	return s
}

// limited is the same with room for so many bytes.
func (s setup) limited(limit int) setup {
	s.limit = limit
	return s
}

// broken is the same with another native break.
func (s setup) broken(native int) setup {
	s.native = native
	return s
}

func (x *pair) state() state { return stateOf(x.m.See(), x.m.Desk()) }

// key gives both a key.
func (x *pair) key(k int) (api.Wish, api.Errno) {
	x.t.Helper()
	ahead := x.state()
	wish, err := x.m.Key(k)
	wantWish, want := x.p.Key(k)
	got, plain := x.state(), stateOf(x.p.See(), x.p.d)
	if err != want || wish != wantWish || !got.equal(plain) {
		x.t.Fatalf("key %d (%q) on %q At %d, mode %d, pending %v:\n got %+v %d %+v\nwant %+v %d %+v", k, show([]int{k}), show(ahead.Text), ahead.At, ahead.Mode, ahead.Pending, got, err, wish, plain, want, wantWish)
	}
	return wish, err
}

// keys gives both keys, of which nothing is known.
func (x *pair) keys(s string) *pair {
	x.t.Helper()
	for _, k := range strokes(s) {
		x.key(k)
	}
	return x
}

// does gives both keys, all of which answer OK.
func (x *pair) does(s string) *pair {
	x.t.Helper()
	all := strokes(s)
	for i, k := range all {
		if _, err := x.key(k); err != api.OK {
			x.t.Fatalf("key %d of %q: %d", i, s, err)
		}
	}
	return x
}

// fails gives both keys, of which the last one answers an error, and nothing has changed by it but what is said: the pending keys.
func (x *pair) fails(s string, want api.Errno) *pair {
	x.t.Helper()
	all := strokes(s)
	x.does(show(all[:len(all)-1]))
	return x.refuses(all[len(all)-1], want)
}

// refuses gives both a key that answers an error, and nothing has changed but the pending keys.
func (x *pair) refuses(k int, want api.Errno) *pair {
	x.t.Helper()
	ahead := x.state()
	wish, err := x.key(k)
	if err != want || wish != (api.Wish{}) {
		x.t.Fatalf("key %d: %d %+v, want %d", k, err, wish, want)
	}
	if !x.state().quiet().equal(ahead.quiet()) {
		x.t.Fatalf("key %d: refused by %d, and yet something has changed:\n got %+v\nwant %+v", k, err, x.state(), ahead)
	}
	return x
}

// answers gives both keys, of which the last one answers an error, whatever has changed by it.
func (x *pair) answers(s string, want api.Errno) *pair {
	x.t.Helper()
	all := strokes(s)
	x.does(show(all[:len(all)-1]))
	if wish, err := x.key(all[len(all)-1]); err != want || wish != (api.Wish{}) {
		x.t.Fatalf("the last key of %q: %d %+v, want %d", s, err, wish, want)
	}
	return x
}

// sees checks the text and the cursor.
func (x *pair) sees(text string, at int) *pair {
	x.t.Helper()
	if s := x.m.See(); !slices.Equal(s.Text, spell(text)) || s.At != at {
		x.t.Fatalf("text %q, At %d; want %q, %d", show(s.Text), s.At, text, at)
	}
	return x
}

// at checks the cursor.
func (x *pair) at(at int) *pair {
	x.t.Helper()
	if got := x.m.See().At; got != at {
		x.t.Fatalf("At %d, want %d", got, at)
	}
	return x
}

// mode checks the mode.
func (x *pair) mode(mode int) *pair {
	x.t.Helper()
	if got := x.m.See().Mode; got != mode {
		x.t.Fatalf("mode %d, want %d", got, mode)
	}
	return x
}

// holds checks a register.
func (x *pair) holds(name, kind int, text string) *pair {
	x.t.Helper()
	if r, err := x.m.Reg(name); err != api.OK || r.Kind != kind || !slices.Equal(r.Text, spell(text)) {
		x.t.Fatalf("the register %c holds %d %q, %d; want %d %q", rune(name), r.Kind, show(r.Text), err, kind, text)
	}
	return x
}

// empty checks that a register holds nothing.
func (x *pair) empty(name int) *pair {
	x.t.Helper()
	if r, err := x.m.Reg(name); err != api.ErrEmpty {
		x.t.Fatalf("the register %c holds %q, %d", rune(name), show(r.Text), err)
	}
	return x
}

// marked checks a mark.
func (x *pair) marked(name, at int) *pair {
	x.t.Helper()
	if got, err := x.m.Desk().Book.Mark(name); err != api.OK || got != at {
		x.t.Fatalf("the mark %c is at %d, %d; want %d", rune(name), got, err, at)
	}
	return x
}

// both does something to the two desks.
func (x *pair) both(do func(d *operate.Desk)) *pair {
	do(x.m.Desk())
	do(x.p.d)
	return x
}

// bank gives a register its text.
func (x *pair) bank(name, kind int, text string) *pair {
	return x.both(func(d *operate.Desk) { d.Bank.Yank(name, api.Reg{Kind: kind, Text: spell(text)}) })
}

// brings lets both bring text, and holds them against one another.
func (x *pair) brings(line int, text []int, want api.Errno) *pair {
	x.t.Helper()
	ahead := x.state()
	err := x.m.Bring(line, text)
	plain := x.p.Bring(line, text)
	if err != want || plain != want {
		x.t.Fatalf("Bring(%d, %q) on %q: %d, plainly %d, want %d", line, show(text), show(ahead.Text), err, plain, want)
	}
	if got, model := x.state(), stateOf(x.p.See(), x.p.d); !got.equal(model) {
		x.t.Fatalf("Bring(%d, %q) on %q:\n got %+v\nwant %+v", line, show(text), show(ahead.Text), got, model)
	}
	if want != api.OK && !x.state().equal(ahead) {
		x.t.Fatalf("Bring(%d, %q) on %q: refused, and yet something has changed", line, show(text), show(ahead.Text))
	}
	return x
}

// goal sees by a j, which is then taken back, that the goal column leads to an offset.
func (x *pair) goal(key string, at int) *pair {
	x.t.Helper()
	was := x.m.See().At
	x.does(key).at(at)
	return x.both(func(d *operate.Desk) { d.At = was })
}

// setNative sets the break that is typed.
func setNative(native int) func(d *operate.Desk) {
	return func(d *operate.Desk) { d.Set.Native = native }
}
