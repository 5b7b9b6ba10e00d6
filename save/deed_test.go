package save_test

import (
	"bytes"
	"fmt"
	"slices"
	"testing"

	"copyist/api"
	"copyist/disk"
	"copyist/piece"
	"copyist/save"
)

// deed is one thing that is done: to a File (one of two), or to the disk.
type deed struct {
	op         string
	file       int
	name, data string
	force      bool
	enc, limit int
	faults     []api.Fault
	cut        api.Cut
}

func opening(file int, name string, enc, limit int) deed {
	return deed{op: "open", file: file, name: name, enc: enc, limit: limit}
}

func saving(file int, data string, force bool) deed {
	return deed{op: "save", file: file, data: data, force: force}
}

func copying(file int, name, data string, force bool) deed {
	return deed{op: "copy", file: file, name: name, data: data, force: force}
}

func naming(file int, name string) deed { return deed{op: "as", file: file, name: name} }
func tidying() deed                     { return deed{op: "tidy"} }
func putting(name, data string) deed    { return deed{op: "put", name: name, data: data} }
func removing(name string) deed         { return deed{op: "remove", name: name} }
func planning(faults ...api.Fault) deed { return deed{op: "plan", faults: faults} }
func crashing(names int, bytes ...int) deed {
	return deed{op: "crash", cut: api.Cut{Names: names, Bytes: bytes}}
}
func restarting() deed { return deed{op: "restart"} }
func (x deed) String() string {
	x.data = short([]string{x.data})[0]
	type bare deed
	return fmt.Sprintf("%+v", bare(x))
}

// pair is a disk twice, with the Files on it: as the package and as the plain reading has them.
type pair struct {
	real, twin *disk.Disk
	files      [2]*save.File
	plains     [2]*plain
	texts      map[string]*piece.Text
}

func newPair(t *testing.T, space int, files ...string) *pair {
	t.Helper()
	return &pair{real: newDisk(t, space, files...), twin: newDisk(t, space, files...), texts: map[string]*piece.Text{}}
}

// text is made once for all deeds with the same bytes: none changes it.
func (p *pair) text(t *testing.T, s string) *piece.Text {
	if p.texts[s] == nil {
		p.texts[s] = text(t, s)
	}
	return p.texts[s]
}

// does does a deed to both, and looks whether they answer the same.
func (p *pair) does(t *testing.T, x deed) api.Errno {
	t.Helper()
	f, q := p.files[x.file], p.plains[x.file]
	var got, want api.Errno
	switch x.op {
	case "open":
		return p.opens(t, x)
	case "tidy":
		got, want = save.Tidy(p.real), plainTidy(p.twin)
	case "save", "copy", "as":
		if (f == nil) != (q == nil) {
			t.Fatalf("%v: %v and %v", x, f, q)
		}
		if f != nil {
			got, want = p.writes(t, x)
		}
	default:
		got, want = x.on(p.real), x.on(p.twin)
	}
	if got != want {
		t.Fatalf("%v: %d, want %d", x, got, want)
	}
	p.same(t, x)
	return got
}

func (p *pair) writes(t *testing.T, x deed) (got, want api.Errno) {
	t.Helper()
	f, q := p.files[x.file], p.plains[x.file]
	switch x.op {
	case "save":
		return f.Save(p.text(t, x.data), x.force), q.save(x.data, x.force)
	case "copy":
		return f.Copy(x.name, p.text(t, x.data), x.force), q.copy(x.name, x.data, x.force)
	}
	return f.As(x.name), q.as(x.name)
}

// opens opens a file in the place of one of the two; where it is refused, that one stays.
func (p *pair) opens(t *testing.T, x deed) api.Errno {
	t.Helper()
	f, l, e := save.Open(p.real, x.name, x.enc, x.limit)
	q, m, want := plainOpen(p.twin, x.name, x.enc, x.limit)
	if (f == nil) != (q == nil) || e != want || l.Enc != m.Enc || l.Mark != m.Mark || l.New != m.New || !bytes.Equal(l.Data, m.Data) {
		t.Fatalf("%v: %v, %+v, %d, want %+v, %d", x, f != nil, l, e, m, want)
	}
	if f != nil {
		p.files[x.file], p.plains[x.file] = f, q
	}
	p.same(t, x)
	return e
}

// on does what another hand, or the world around the disk, does.
func (x deed) on(d *disk.Disk) api.Errno {
	switch x.op {
	case "put":
		return errno(d.Put(x.name, []byte(x.data)))
	case "remove":
		return errno(d.Remove(x.name))
	case "plan":
		d.Plan(x.faults)
	case "crash":
		d.Crash(x.cut)
	case "restart":
		d.Restart()
	default:
		panic(x.op)
	}
	return api.OK
}

// same: what is told without a step.
func (p *pair) same(t *testing.T, x deed) {
	t.Helper()
	if p.real.Steps() != p.twin.Steps() || p.real.Down() != p.twin.Down() || !slices.Equal(p.real.Names(), p.twin.Names()) {
		t.Fatalf("%v: %d steps, down %v, %v, want %d, %v, %v", x, p.real.Steps(), p.real.Down(), p.real.Names(), p.twin.Steps(), p.twin.Down(), p.twin.Names())
	}
	for i, f := range p.files {
		if f != nil && f.Stamp() != p.plains[i].stamp() {
			t.Fatalf("%v: the stamp %v, want %v", x, f.Stamp(), p.plains[i].stamp())
		}
	}
}

// ends looks at all bytes and stamps; a power loss comes first, so that what lasts is looked at too.
func (p *pair) ends(t *testing.T, loss deed) {
	t.Helper()
	p.does(t, loss)
	p.does(t, restarting())
	p.looks(t, "at the end")
}

func (p *pair) looks(t *testing.T, what string) {
	t.Helper()
	p.real.Plan(nil)
	p.twin.Plan(nil)
	if got, want := seen(t, p.real), seen(t, p.twin); !slices.Equal(got, want) {
		t.Fatalf("%s: the disk holds %v, want %v", what, short(got), short(want))
	}
	for _, name := range p.real.Names() {
		if got, want := stampOf(t, p.real, name), stampOf(t, p.twin, name); got != want {
			t.Fatalf("%s: %s has the stamp %v, want %v", what, name, got, want)
		}
	}
}
