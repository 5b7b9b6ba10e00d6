package ex_test

import (
	"maps"
	"slices"
	"testing"

	"copyist/api"
	"copyist/codec"
	"copyist/ex"
	"copyist/operate"
)

var encodings = []int{api.UTF8, api.UTF16LE, api.UTF16BE, api.Latin1}

var natives = []int{api.LF, api.CRLF, api.CR}

// spell is a text as its atoms.
func spell(s string) []int {
	list := []int{}
	for _, r := range s {
		list = append(list, int(r))
	}
	return list
}

// show is a list of atoms as a text, as far as it is one.
func show(atoms []int) string {
	s := ""
	for _, a := range atoms {
		s += string(rune(a))
	}
	return s
}

// desk makes one of a text in UTF8, with much room.
func desk(t *testing.T, text string, at int) *operate.Desk {
	t.Helper()
	return deskIn(t, api.UTF8, spell(text), at, 2000)
}

func deskIn(t *testing.T, enc int, atoms []int, at, limit int) *operate.Desk {
	t.Helper()
	b, _, err := codec.Encode(enc, atoms)
	if err != api.OK {
		t.Fatalf("Encode: %d", err)
	}
	d, err := operate.New(enc, b, limit, api.LF, 50)
	if err != api.OK {
		t.Fatalf("New: %d", err)
	}
	d.At = at
	return d
}

// sight is all that a desk tells.
type sight struct {
	Atoms, Tags []int
	Marks       [][2]int
	Watched     []int
	Undo, Redo  int
	Open, Dirty bool
	Regs        map[int]api.Reg
	At          int
	Find        []int
	Sub         api.Sub
	Set         api.Settings
}

func look(d *operate.Desk) sight {
	text := d.Book.Text()
	n := text.Len()
	s := sight{
		Atoms: text.Atoms(0, n), Tags: text.Tags(0, n), Marks: d.Book.Marks(), Watched: d.Book.Watched(),
		Open: d.Book.IsOpen(), Dirty: d.Book.Dirty(), Regs: map[int]api.Reg{}, At: d.At, Find: slices.Clone(d.Find),
		Sub: api.Sub{Pat: slices.Clone(d.Sub.Pat), Rep: slices.Clone(d.Sub.Rep), Flags: d.Sub.Flags}, Set: d.Set,
	}
	s.Undo, s.Redo = d.Book.Depth()
	for _, name := range append(d.Bank.Names(), 0) {
		if r, err := d.Bank.Get(name); err == api.OK {
			s.Regs[name] = r
		}
	}
	return s
}

func sameReg(a, b api.Reg) bool { return a.Kind == b.Kind && slices.Equal(a.Text, b.Text) }

func sameSub(a, b api.Sub) bool {
	return slices.Equal(a.Pat, b.Pat) && slices.Equal(a.Rep, b.Rep) && a.Flags == b.Flags
}

func (s sight) equal(o sight) bool {
	return slices.Equal(s.Atoms, o.Atoms) && slices.Equal(s.Tags, o.Tags) && slices.Equal(s.Marks, o.Marks) && slices.Equal(s.Watched, o.Watched) &&
		s.Undo == o.Undo && s.Redo == o.Redo && s.Open == o.Open && s.Dirty == o.Dirty &&
		maps.EqualFunc(s.Regs, o.Regs, sameReg) && s.At == o.At &&
		slices.Equal(s.Find, o.Find) && sameSub(s.Sub, o.Sub) && s.Set == o.Set
}

// past are all texts that undo leads back to, and the way on again; the desk is left as it was found.
func past(d *operate.Desk) []sight {
	var all []sight
	at := d.At
	undone := 0
	for {
		back, err := d.Book.Undo()
		if err != api.OK {
			break
		}
		undone++
		n := d.Book.Text().Len()
		all = append(all, sight{Atoms: d.Book.Text().Atoms(0, n), Tags: d.Book.Text().Tags(0, n), At: back, Dirty: d.Book.Dirty()})
	}
	for range undone {
		back, _ := d.Book.Redo()
		n := d.Book.Text().Len()
		all = append(all, sight{Atoms: d.Book.Text().Atoms(0, n), Tags: d.Book.Text().Tags(0, n), At: back, Dirty: d.Book.Dirty()})
	}
	d.At = at
	return all
}

// run does a line, and sees that with an error nothing has changed.
func run(t *testing.T, d *operate.Desk, line string, want api.Errno) api.Wish {
	t.Helper()
	return runAtoms(t, d, spell(line), want)
}

func runAtoms(t *testing.T, d *operate.Desk, line []int, want api.Errno) api.Wish {
	t.Helper()
	ahead := look(d)
	w, err := ex.Run(d, line)
	if err != want {
		t.Fatalf("%q on %q At %d: error %d, want %d", show(line), show(ahead.Atoms), ahead.At, err, want)
	}
	if err != api.OK && (!look(d).equal(ahead) || w != api.Wish{}) {
		t.Fatalf("%q on %q: refused by %d, and yet something has changed:\n got %+v\nwant %+v", show(line), show(ahead.Atoms), err, look(d), ahead)
	}
	return w
}

// sees checks the text and the cursor.
func sees(t *testing.T, d *operate.Desk, text string, at int) {
	t.Helper()
	if got := look(d); !slices.Equal(got.Atoms, spell(text)) || got.At != at {
		t.Fatalf("text %q, At %d; want %q, %d", show(got.Atoms), got.At, text, at)
	}
}

// holds checks a register.
func holds(t *testing.T, d *operate.Desk, name, kind int, text string) {
	t.Helper()
	if r, err := d.Bank.Get(name); err != api.OK || r.Kind != kind || !slices.Equal(r.Text, spell(text)) {
		t.Fatalf("the register %c holds %d %q, %d; want %d %q", rune(name), r.Kind, show(r.Text), err, kind, text)
	}
}

// number is the address of a line.
func number(n int) api.Addr { return api.Addr{Kind: api.ANumber, N: n} }

func dot(off int) api.Addr { return api.Addr{Kind: api.ADot, Off: off} }

func last(off int) api.Addr { return api.Addr{Kind: api.ALast, Off: off} }

func ahead(pat string) api.Addr { return api.Addr{Kind: api.ASearch, Pat: spell(pat)} }

func back(pat string) api.Addr { return api.Addr{Kind: api.ASearchBack, Pat: spell(pat)} }

// same tells whether two command lines are, an empty list being as good as none.
func same(x, y api.Ex) bool {
	return slices.EqualFunc(x.Addrs, y.Addrs, sameAddr) && x.Verb == y.Verb && x.Force == y.Force && x.Reg == y.Reg && x.Count == y.Count &&
		sameAddr(x.Dest, y.Dest) && slices.Equal(x.Pat, y.Pat) && slices.Equal(x.Rep, y.Rep) && x.Flags == y.Flags && slices.Equal(x.Arg, y.Arg)
}

func sameAddr(a, b api.Addr) bool {
	return a.Kind == b.Kind && a.N == b.N && slices.Equal(a.Pat, b.Pat) && a.Off == b.Off
}

// runQuietly does a line of which nothing is known.
func runQuietly(d *operate.Desk, line string) (api.Wish, api.Errno) { return ex.Run(d, spell(line)) }
