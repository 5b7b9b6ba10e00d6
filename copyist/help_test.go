package copyist_test

import (
	"maps"
	"slices"
	"strings"
	"testing"

	"copyist/api"
	"copyist/copyist"
	"copyist/disk"
)

// mark8, mark16, mark61: the byte order marks of UTF8, UTF16LE, UTF16BE.
const mark8, mark16, mark61 = "\xEF\xBB\xBF", "\xFF\xFE", "\xFE\xFF"

var encodings = []int{api.UTF8, api.UTF16LE, api.UTF16BE, api.Latin1}

// kindsOfFaults are all of them.
var kindsOfFaults = []int{api.FaultRefuse, api.FaultPart, api.FaultLie, api.FaultAhead, api.FaultBehind}

// allRegisters are those that hold something of their own, and the unnamed one.
var allRegisters = spell("\"0123456789-.:/abcdefghijklmnopqrstuvwxyz")

// spell is a text as its atoms.
func spell(s string) []int {
	list := []int{}
	for _, r := range s {
		list = append(list, int(r))
	}
	return list
}

// strokes are the keys of a text, in which some signs stand for keys that have none.
func strokes(s string) []int {
	list := spell(s)
	for i, k := range list {
		switch k {
		case '␛':
			list[i] = api.KeyEscape
		case '⏎':
			list[i] = api.KeyReturn
		case '⌫':
			list[i] = api.KeyBack
		case '␖':
			list[i] = api.KeyCtrlV
		case '␗':
			list[i] = api.KeyCtrlW
		case '␕':
			list[i] = api.KeyCtrlU
		case '␒':
			list[i] = api.KeyCtrlR
		case '␆':
			list[i] = api.KeyCtrlF
		case '␄':
			list[i] = api.KeyCtrlD
		case '␅':
			list[i] = api.KeyCtrlE
		case '␊':
			list[i] = 10
		}
	}
	return list
}

// show is a list of atoms as a text, as far as it is one.
func show(atoms []int) string {
	s := ""
	for _, a := range atoms {
		s += string(rune(a))
	}
	return s
}

// usual is the setup of the chapter's examples: names and bytes, one behind the other.
func usual(name string, files ...string) api.Setup {
	s := api.Setup{Name: name, Limit: 65536, Native: api.LF, Depth: 200, Height: 10, Space: 100000}
	for i := 0; i+1 < len(files); i += 2 {
		s.Files = append(s.Files, api.File{Name: files[i], Data: []byte(files[i+1])})
	}
	return s
}

// in is a setup with an encoding.
func in(enc int, s api.Setup) api.Setup {
	s.Enc = enc
	return s
}

func newDisk(t *testing.T, space int, files ...string) *disk.Disk {
	t.Helper()
	d, err := disk.New(space)
	if err != nil {
		t.Fatal(err)
	}
	for i := 0; i+1 < len(files); i += 2 {
		if err := d.Put(files[i], []byte(files[i+1])); err != nil {
			t.Fatal(err)
		}
	}
	return d
}

// filesOn are the names and the bytes on a disk that is up, one behind the other.
func filesOn(t *testing.T, d *disk.Disk) []string {
	t.Helper()
	all := []string{}
	for _, name := range d.Names() {
		b, err := d.Read(name)
		if err != nil {
			t.Fatal(err)
		}
		all = append(all, name, string(b))
	}
	return all
}

func sameSight(a, b api.Sight) bool {
	return slices.Equal(a.Text, b.Text) && slices.Equal(a.Tags, b.Tags) && a.At == b.At && a.Mode == b.Mode && a.Anchor == b.Anchor &&
		slices.Equal(a.Pending, b.Pending) && slices.Equal(a.Line, b.Line) && a.Dirty == b.Dirty && a.Top == b.Top && a.Cell == b.Cell &&
		a.Percent == b.Percent && a.Record == b.Record && a.Set == b.Set
}

func sameReg(a, b api.Reg) bool { return a.Kind == b.Kind && slices.Equal(a.Text, b.Text) }

// same holds all fields of two answers against one another; nil and an empty list are the same.
func same(a, b api.Answer) bool {
	return a.Err == b.Err && a.N == b.N && sameSight(a.Sight, b.Sight) && sameReg(a.Reg, b.Reg) && slices.Equal(a.Data, b.Data) &&
		slices.Equal(a.Names, b.Names) && a.Name == b.Name && a.Enc == b.Enc && a.Mark == b.Mark
}

// pair is an editor beside the plain reading, each on a disk of its own: each step is given to both, and what they answer is held against one another.
type pair struct {
	t *testing.T
	d *disk.Disk
	e *copyist.Editor
	p *plain
}

// begin begins a session that must begin.
func begin(t *testing.T, s api.Setup) *pair {
	t.Helper()
	return beginOn(t, newDisk(t, s.Space), newDisk(t, s.Space), s)
}

// beginOn begins it on two disks that hold the same.
func beginOn(t *testing.T, d, other *disk.Disk, s api.Setup) *pair {
	t.Helper()
	e, err := copyist.On(d, s)
	p, want := plainOn(other, s)
	if err != api.OK || want != api.OK || e == nil {
		t.Fatalf("On(%q): %d, plainly %d", s.Name, err, want)
	}
	x := &pair{t, d, e, p}
	x.sameDisks("at the beginning")
	return x
}

// sameDisks holds against one another what both disks tell without a step.
func (x *pair) sameDisks(what string) {
	x.t.Helper()
	d, p := x.d, x.p.d
	if d.Steps() != p.Steps() || d.Down() != p.Down() || !slices.Equal(d.Names(), p.Names()) {
		x.t.Fatalf("%s: %d steps, down %v, names %q; plainly %d, %v, %q", what, d.Steps(), d.Down(), d.Names(), p.Steps(), p.Down(), p.Names())
	}
}

// do gives both a step.
func (x *pair) do(s api.Step) api.Answer {
	x.t.Helper()
	got, want := x.e.Do(s), x.p.Do(s)
	if !same(got, want) {
		x.t.Fatalf("step %+v:\n got %+v\nwant %+v", s, got, want)
	}
	x.sameDisks("behind a step")
	return got
}

func (x *pair) keys(s string) api.Answer {
	x.t.Helper()
	return x.do(api.Step{Kind: api.StepKeys, Keys: strokes(s)})
}

// does gives both keys, all of which answer OK.
func (x *pair) does(s string) *pair {
	x.t.Helper()
	if a := x.keys(s); a.Err != api.OK || a.N != len(strokes(s)) {
		x.t.Fatalf("keys %q: %d behind %d keys", s, a.Err, a.N)
	}
	return x
}

// answers gives both keys, of which the last one answers an error.
func (x *pair) answers(s string, want api.Errno) *pair {
	x.t.Helper()
	if a := x.keys(s); a.Err != want || a.N != len(strokes(s))-1 {
		x.t.Fatalf("keys %q: %d behind %d keys, want %d at the last one", s, a.Err, a.N, want)
	}
	return x
}

// refuses gives both a command line whose wish is refused: in the session nothing has changed by it but the register of the last line.
func (x *pair) refuses(line string, want api.Errno) *pair {
	x.t.Helper()
	ahead := x.state()
	x.answers(":"+line+"⏎", want)
	ahead.regs[':'] = api.Reg{Text: spell(line)}
	if now := x.state(); !now.equal(ahead) {
		x.t.Fatalf("%q is refused, and yet something has changed:\n got %+v\nwant %+v", line, now, ahead)
	}
	return x
}

// state is all that is to be seen of a session.
type state struct {
	sight api.Answer
	regs  map[int]api.Reg
}

func (x *pair) state() state {
	x.t.Helper()
	s := state{sight: x.see(), regs: map[int]api.Reg{}}
	for _, name := range allRegisters {
		if a := x.do(api.Step{Kind: api.StepReg, N: name}); a.Err == api.OK {
			s.regs[name] = a.Reg
		}
	}
	return s
}

func (s state) equal(o state) bool {
	return same(s.sight, o.sight) && maps.EqualFunc(s.regs, o.regs, sameReg)
}

func (x *pair) see() api.Answer {
	x.t.Helper()
	a := x.do(api.Step{Kind: api.StepSee})
	if a.Err != api.OK {
		x.t.Fatalf("StepSee: %d", a.Err)
	}
	return a
}

// sees checks the text and the cursor.
func (x *pair) sees(text string, at int) *pair {
	x.t.Helper()
	if s := x.see().Sight; !slices.Equal(s.Text, spell(text)) || s.At != at {
		x.t.Fatalf("the text %q, At %d; want %q, %d", show(s.Text), s.At, text, at)
	}
	return x
}

func (x *pair) dirty(want bool) *pair {
	x.t.Helper()
	if got := x.see().Sight.Dirty; got != want {
		x.t.Fatalf("dirty %v, want %v", got, want)
	}
	return x
}

// named checks the text's name, its encoding and the bytes of its mark.
func (x *pair) named(name string, enc, mark int) *pair {
	x.t.Helper()
	if a := x.see(); a.Name != name || a.Enc != enc || a.Mark != mark {
		x.t.Fatalf("the name %q, the encoding %d, the mark %d; want %q, %d, %d", a.Name, a.Enc, a.Mark, name, enc, mark)
	}
	return x
}

// holds checks a register.
func (x *pair) holds(name, kind int, text string) *pair {
	x.t.Helper()
	if a := x.do(api.Step{Kind: api.StepReg, N: name}); a.Err != api.OK || !sameReg(a.Reg, api.Reg{Kind: kind, Text: spell(text)}) {
		x.t.Fatalf("the register %c: %+v, %d; want %d %q", rune(name), a.Reg, a.Err, kind, text)
	}
	return x
}

// empty checks that a register holds nothing.
func (x *pair) empty(name int) *pair {
	x.t.Helper()
	if a := x.do(api.Step{Kind: api.StepReg, N: name}); a.Err != api.ErrEmpty {
		x.t.Fatalf("the register %c: %+v, %d", rune(name), a.Reg, a.Err)
	}
	return x
}

// file checks what a file holds.
func (x *pair) file(name, want string) *pair {
	x.t.Helper()
	if a := x.do(api.Step{Kind: api.StepFile, Name: name}); a.Err != api.OK || string(a.Data) != want {
		x.t.Fatalf("the file %s: %d, %.60q; want %.60q", name, a.Err, a.Data, want)
	}
	return x
}

// files checks all files: names and bytes, one behind the other.
func (x *pair) files(want ...string) *pair {
	x.t.Helper()
	a := x.do(api.Step{Kind: api.StepNames})
	if a.Err != api.OK || len(a.Names) != len(want)/2 {
		x.t.Fatalf("the names %q, %d; want %q", a.Names, a.Err, want)
	}
	for i, name := range a.Names {
		if name != want[2*i] {
			x.t.Fatalf("the names %q; want %q", a.Names, want)
		}
		x.file(name, want[2*i+1])
	}
	return x
}

func (x *pair) faults(faults ...api.Fault) *pair {
	x.t.Helper()
	if a := x.do(api.Step{Kind: api.StepFaults, Faults: faults}); a.Err != api.OK {
		x.t.Fatalf("StepFaults: %d", a.Err)
	}
	return x
}

func fault(step, kind int) api.Fault { return api.Fault{Step: step, Kind: kind} }

func cutting(step, kind, names int, bytes ...int) api.Fault {
	return api.Fault{Step: step, Kind: kind, Cut: api.Cut{Names: names, Bytes: bytes}}
}

// steps checks how many steps of the disk there have been since the last plan.
func (x *pair) steps(want int) *pair {
	x.t.Helper()
	if got := x.d.Steps(); got != want {
		x.t.Fatalf("%d steps of the disk, want %d", got, want)
	}
	return x
}

func (x *pair) poke(name, data string) *pair {
	x.t.Helper()
	if a := x.do(api.Step{Kind: api.StepPoke, Name: name, Data: []byte(data)}); a.Err != api.OK {
		x.t.Fatalf("StepPoke: %d", a.Err)
	}
	return x
}

// restart begins anew on a file.
func (x *pair) restart(name string, cut api.Cut, want api.Errno) *pair {
	x.t.Helper()
	if a := x.do(api.Step{Kind: api.StepRestart, Name: name, Cut: cut}); a.Err != want {
		x.t.Fatalf("StepRestart %q: %d, want %d", name, a.Err, want)
	}
	return x
}

// gone checks that there is no session.
func (x *pair) gone() *pair {
	x.t.Helper()
	for _, kind := range []int{api.StepKey, api.StepKeys, api.StepSee, api.StepReg} {
		if a := x.do(api.Step{Kind: kind, N: 'a'}); !same(a, api.Answer{Err: api.ErrGone}) {
			x.t.Fatalf("step %d behind the end: %+v", kind, a)
		}
	}
	return x
}

// ends checks at last that all that stands on both disks is the same, stamps and all.
func (x *pair) ends() {
	x.t.Helper()
	x.d.Restart()
	x.p.d.Restart()
	x.sameDisks("at the end")
	for _, d := range []*disk.Disk{x.d, x.p.d} {
		d.Plan(nil)
	}
	for _, name := range x.d.Names() {
		got, _ := x.d.Stamp(name)
		want, _ := x.p.d.Stamp(name)
		if got != want {
			x.t.Fatalf("the stamp of %s: %v, want %v", name, got, want)
		}
	}
	if got, want := filesOn(x.t, x.d), filesOn(x.t, x.p.d); !slices.Equal(got, want) {
		x.t.Fatalf("at the end the disk holds %q, want %q", got, want)
	}
}

// letters are n bytes, of which a chunk is unlike those next to it.
func letters(n int) string {
	var b strings.Builder
	for i := range n {
		b.WriteByte(byte('a' + i%13 + i/api.Chunk%13))
	}
	return b.String()
}
