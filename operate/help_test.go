package operate_test

import (
	"fmt"
	"maps"
	"math"
	"reflect"
	"slices"
	"testing"

	"copyist/api"
	"copyist/codec"
	"copyist/history"
	"copyist/operate"
	"copyist/register"
)

var encodings = []int{api.UTF8, api.UTF16LE, api.UTF16BE, api.Latin1}

var natives = []int{api.LF, api.CRLF, api.CR}

// spell is a text as its atoms.
func spell(s string) []int {
	list := []int{}
	for _, r := range s {
		list = append(list, int(r))
	}
	return list
}

func chars(from, to int) api.Span { return api.Span{From: from, To: to, Kind: api.ByChars} }

func rows(from, to int) api.Span { return api.Span{From: from, To: to, Kind: api.ByLines} }

func byChars(s string) api.Reg { return api.Reg{Kind: api.ByChars, Text: spell(s)} }

func byLines(s string) api.Reg { return api.Reg{Kind: api.ByLines, Text: spell(s)} }

// act is one call, as it is made and as it is read plainly.
type act struct {
	name string
	call func(*operate.Desk) api.Errno
	read func(*plain) deed
}

func yank(reg int, s api.Span) act {
	return act{fmt.Sprint("Yank ", reg, s),
		func(d *operate.Desk) api.Errno { return d.Yank(reg, s) },
		func(p *plain) deed { return p.yank(reg, s) }}
}

func remove(reg int, s api.Span) act {
	return act{fmt.Sprint("Delete ", reg, s),
		func(d *operate.Desk) api.Errno { return d.Delete(reg, s) },
		func(p *plain) deed { return p.remove(reg, s) }}
}

func change(reg int, s api.Span) act {
	return act{fmt.Sprint("Change ", reg, s),
		func(d *operate.Desk) api.Errno { return d.Change(reg, s) },
		func(p *plain) deed { return p.change(reg, s) }}
}

func put(reg int, up bool, count int) act {
	return act{fmt.Sprint("Put ", reg, up, count),
		func(d *operate.Desk) api.Errno { return d.Put(reg, up, count) },
		func(p *plain) deed { return p.put(reg, up, count) }}
}

func turn(how int, s api.Span) act {
	return act{fmt.Sprint("Case ", how, s),
		func(d *operate.Desk) api.Errno { return d.Case(how, s) },
		func(p *plain) deed { return p.turn(how, s) }}
}

func shift(s api.Span, steps int) act {
	return act{fmt.Sprint("Shift ", s, steps),
		func(d *operate.Desk) api.Errno { return d.Shift(s, steps) },
		func(p *plain) deed { return p.shift(s, steps) }}
}

func join(first, last int, bare bool) act {
	return act{fmt.Sprint("Join ", first, last, bare),
		func(d *operate.Desk) api.Errno { return d.Join(first, last, bare) },
		func(p *plain) deed { return p.join(first, last, bare) }}
}

func typing(typed ...int) act {
	return act{fmt.Sprint("Type ", typed),
		func(d *operate.Desk) api.Errno { return d.Type(typed) },
		func(p *plain) deed { return p.typing(typed) }}
}

func over(count, atom int) act {
	return act{fmt.Sprint("Over ", count, atom),
		func(d *operate.Desk) api.Errno { return d.Over(count, atom) },
		func(p *plain) deed { return p.over(count, atom) }}
}

// sight is all that a desk tells.
type sight struct {
	Atoms, Tags []int
	Marks       [][2]int
	Watched     []int
	Undo, Redo  int
	Open, Dirty bool
	Regs        map[int]api.Reg
	At          int
	Find        []int
	Sub         api.Sub
	Set         api.Settings
}

func look(book *history.Book, bank *register.Bank) sight {
	text := book.Text()
	s := sight{Atoms: text.Atoms(0, text.Len()), Tags: text.Tags(0, text.Len()), Marks: book.Marks(), Watched: book.Watched(), Open: book.IsOpen(), Dirty: book.Dirty()}
	s.Undo, s.Redo = book.Depth()
	s.Regs = map[int]api.Reg{}
	for _, name := range append(bank.Names(), 0) {
		if r, err := bank.Get(name); err == api.OK {
			s.Regs[name] = r
		}
	}
	return s
}

func lookAt(d *operate.Desk) sight {
	s := look(d.Book, d.Bank)
	s.At, s.Find, s.Sub, s.Set = d.At, slices.Clone(d.Find), d.Sub, d.Set
	s.Sub.Pat, s.Sub.Rep = slices.Clone(d.Sub.Pat), slices.Clone(d.Sub.Rep)
	return s
}

func sameReg(a, b api.Reg) bool { return a.Kind == b.Kind && slices.Equal(a.Text, b.Text) }

func (s sight) equal(o sight) bool {
	return slices.Equal(s.Atoms, o.Atoms) && slices.Equal(s.Tags, o.Tags) && slices.Equal(s.Marks, o.Marks) && slices.Equal(s.Watched, o.Watched) &&
		s.Undo == o.Undo && s.Redo == o.Redo && s.Open == o.Open && s.Dirty == o.Dirty &&
		maps.EqualFunc(s.Regs, o.Regs, sameReg) && s.At == o.At &&
		slices.Equal(s.Find, o.Find) && reflect.DeepEqual(s.Sub, o.Sub) && s.Set == o.Set
}

// pair is a desk beside its plain reading: each call is done to both, and all that they tell is held against one another.
type pair struct {
	t *testing.T
	d *operate.Desk
	p *plain
}

// bytesOf are the bytes of atoms that fit.
func bytesOf(t *testing.T, enc int, atoms []int) []byte {
	t.Helper()
	b, at, err := codec.Encode(enc, atoms)
	if err != api.OK {
		t.Fatalf("encoding %d has no bytes for the atom %d", enc, atoms[at])
	}
	return b
}

// open makes a pair of bytes. Find, Sub and the settings are set, so that it is seen if they don't stay.
func open(t *testing.T, enc int, b []byte, limit int) *pair {
	t.Helper()
	d, err := operate.New(enc, b, limit, api.LF, 50)
	if err != api.OK {
		t.Fatalf("New: %d", err)
	}
	d.Find, d.Sub = []int{1, 2}, api.Sub{Pat: []int{3}, Rep: []int{4}, Flags: 5}
	d.Set.IgnoreCase = true
	book, _ := history.Open(enc, b, limit, 50)
	return &pair{t, d, &plain{limit: limit, book: book, bank: register.New(), set: d.Set}}
}

// load makes a pair of a text in UTF8, with much room.
func load(t *testing.T, s string) *pair {
	t.Helper()
	return open(t, api.UTF8, []byte(s), 1000)
}

// at puts the cursor.
func (x *pair) at(at int) *pair {
	x.d.At, x.p.at = at, at
	return x
}

func (x *pair) native(kind int) *pair {
	x.d.Set.Native, x.p.set.Native = kind, kind
	return x
}

// bank gives a register its text.
func (x *pair) bank(name int, r api.Reg) *pair {
	x.d.Bank.Yank(name, r)
	x.p.bank.Yank(name, r)
	return x
}

// marked sets marks at all offsets that there are names for, and watches all offsets.
func (x *pair) marked() *pair {
	n := x.d.Book.Text().Len()
	var all []int
	for i := range n + 1 {
		all = append(all, i)
		if i < 26 {
			x.d.Book.SetMark('a'+i, i)
			x.p.book.SetMark('a'+i, i)
		}
	}
	x.d.Book.Watch(all)
	x.p.book.Watch(all)
	return x
}

// begin opens a group.
func (x *pair) begin(at int) *pair {
	x.t.Helper()
	if x.d.Book.Begin(at) != x.p.book.Begin(at) {
		x.t.Fatal("Begin")
	}
	return x
}

func (x *pair) end(at int) {
	x.t.Helper()
	if x.d.Book.End(at) != x.p.book.End(at) {
		x.t.Fatal("End")
	}
	x.same("End")
}

// same holds the desk against its plain reading.
func (x *pair) same(what string) {
	x.t.Helper()
	want := look(x.p.book, x.p.bank)
	want.At, want.Find, want.Sub, want.Set = x.p.at, []int{1, 2}, api.Sub{Pat: []int{3}, Rep: []int{4}, Flags: 5}, x.p.set
	if got := lookAt(x.d); !got.equal(want) {
		x.t.Fatalf("%s:\n got %+v\nwant %+v", what, got, want)
	}
}

// try does a call to both.
func (x *pair) try(a act) api.Errno {
	x.t.Helper()
	ahead := lookAt(x.d)
	want := x.p.run(a.read(x.p))
	got := a.call(x.d)
	what := fmt.Sprintf("%v At %d native %d: %s", ahead.Atoms, ahead.At, ahead.Set.Native, a.name)
	if len(what) > 500 {
		what = a.name
	}
	if got != want {
		x.t.Fatalf("%s: error %d, want %d", what, got, want)
	}
	if got != api.OK && !lookAt(x.d).equal(ahead) {
		x.t.Fatalf("%s: refused by %d, and yet something has changed", what, got)
	}
	x.same(what)
	return got
}

// undo takes a group back and does it again, in both.
func (x *pair) undo() {
	x.t.Helper()
	for _, way := range []func(*history.Book) (int, api.Errno){(*history.Book).Undo, (*history.Book).Redo, (*history.Book).Undo} {
		at, err := way(x.d.Book)
		wantAt, want := way(x.p.book)
		if at != wantAt || err != want {
			x.t.Fatalf("undo, redo: %d, %d; want %d, %d", at, err, wantAt, want)
		}
		x.same("undo, redo")
	}
}

// sees checks the text, the cursor.
func (x *pair) sees(text string, at int) {
	x.t.Helper()
	if got := lookAt(x.d); !slices.Equal(got.Atoms, spell(text)) || got.At != at {
		x.t.Fatalf("text %q, At %d; want %q, %d", show(got.Atoms), got.At, text, at)
	}
}

func show(atoms []int) string {
	s := ""
	for _, a := range atoms {
		s += string(rune(a))
	}
	return s
}

// holds checks a register.
func (x *pair) holds(name int, want api.Reg) {
	x.t.Helper()
	if r, err := x.d.Bank.Get(name); err != api.OK || !sameReg(r, want) {
		x.t.Fatalf("the register %d holds %v, %d; want %v", name, r, err, want)
	}
}

func (x *pair) tags(want ...int) {
	x.t.Helper()
	if got := lookAt(x.d).Tags; !slices.Equal(got, want) {
		x.t.Fatalf("tags %v; want %v", got, want)
	}
}

func (x *pair) depth(undo, redo int) {
	x.t.Helper()
	if u, r := x.d.Book.Depth(); u != undo || r != redo {
		x.t.Fatalf("Depth %d, %d; want %d, %d", u, r, undo, redo)
	}
}

// does says what a call answers, on top of what the plain reading says.
func (x *pair) does(a act, want api.Errno) *pair {
	x.t.Helper()
	if got := x.try(a); got != want {
		x.t.Fatalf("%s: %d; want %d", a.name, got, want)
	}
	return x
}

// spans are all spans of a text of n atoms, of both kinds.
func spans(n int) []api.Span {
	var all []api.Span
	for from := range n + 1 {
		for to := from; to <= n; to++ {
			all = append(all, chars(from, to), rows(from, to))
		}
	}
	return all
}

// badSpans are spans that a text of n atoms refuses, with the reason.
func badSpans(n int) map[api.Span]api.Errno {
	bad := map[api.Span]api.Errno{}
	for _, ends := range [][2]int{{-1, 0}, {-1, -1}, {0, n + 1}, {n + 1, n + 1}, {math.MinInt, math.MaxInt}, {math.MaxInt, math.MinInt}, {n, math.MaxInt}, {math.MinInt, 0}, {1, 0}, {n, -1}} {
		for _, kind := range []int{api.ByChars, api.ByLines} {
			bad[api.Span{From: ends[0], To: ends[1], Kind: kind}] = api.ErrRange
		}
		for _, kind := range []int{-1, 2, 3, math.MinInt, math.MaxInt, 1 << 32} {
			bad[api.Span{From: ends[0], To: ends[1], Kind: kind}] = api.ErrArg
			bad[api.Span{Kind: kind}] = api.ErrArg
		}
	}
	return bad
}
