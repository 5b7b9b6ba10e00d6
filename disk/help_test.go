package disk_test

import (
	"errors"
	"fmt"
	"slices"
	"testing"

	"copyist/api"
	"copyist/disk"
)

// call is one call of a disk: its name in small letters, and what it is given.
type call struct {
	op, name, to, data string
	faults             []api.Fault
	cut                api.Cut
}

// steps are the names of the calls that are counted.
var steps = []string{"make", "append", "sync", "syncdir", "rename", "remove", "read", "stamp"}

func mk(name string) call           { return call{op: "make", name: name} }
func add(name, data string) call    { return call{op: "append", name: name, data: data} }
func sync(name string) call         { return call{op: "sync", name: name} }
func syncDir() call                 { return call{op: "syncdir"} }
func rename(from, to string) call   { return call{op: "rename", name: from, to: to} }
func remove(name string) call       { return call{op: "remove", name: name} }
func read(name string) call         { return call{op: "read", name: name} }
func stamp(name string) call        { return call{op: "stamp", name: name} }
func put(name, data string) call    { return call{op: "put", name: name, data: data} }
func plan(faults ...api.Fault) call { return call{op: "plan", faults: faults} }
func restart() call                 { return call{op: "restart"} }

func crash(names int, bytes ...int) call {
	return call{op: "crash", cut: api.Cut{Names: names, Bytes: bytes}}
}

// on makes the call, and puts all that it answers together.
func (c call) on(t *testing.T, d *disk.Disk) told {
	t.Helper()
	var a told
	var err error
	switch c.op {
	case "make":
		err = d.Make(c.name)
	case "append":
		a.n, err = d.Append(c.name, []byte(c.data))
	case "sync":
		err = d.Sync(c.name)
	case "syncdir":
		err = d.SyncDir()
	case "rename":
		err = d.Rename(c.name, c.to)
	case "remove":
		err = d.Remove(c.name)
	case "read":
		var b []byte
		b, err = d.Read(c.name)
		a.bytes = string(b)
	case "stamp":
		a.stamp, err = d.Stamp(c.name)
	case "put":
		err = d.Put(c.name, []byte(c.data))
	case "plan":
		d.Plan(c.faults)
	case "crash":
		d.Crash(c.cut)
	case "restart":
		d.Restart()
	default:
		t.Fatalf("no such call: %q", c.op)
	}
	a.op, a.name, a.step, a.err = taken(t, err)
	return a
}

// taken takes an error apart, and looks whether it is one of the form that all of them have.
func taken(t *testing.T, err error) (op, name string, step int, number api.Errno) {
	t.Helper()
	if err == nil {
		return "", "", 0, api.OK
	}
	f, ok := err.(*disk.Fail)
	if !ok || f == nil {
		t.Fatalf("%#v is no *Fail", err)
	}
	number, ok = f.Err.(api.Errno)
	if !ok || f.Unwrap() != error(number) {
		t.Fatalf("%#v wraps no api.Errno", err)
	}
	var as *disk.Fail
	if !errors.Is(err, number) || !errors.As(err, &as) || as != f {
		t.Fatalf("%#v is not found by errors.Is or errors.As", err)
	}
	var inner api.Errno
	if !errors.As(err, &inner) || inner != number {
		t.Fatalf("%#v: errors.As finds the number %d", err, inner)
	}
	for _, other := range numbers {
		if errors.Is(err, other) != (other == number) {
			t.Fatalf("%#v: errors.Is(%d) = %v", err, other, other != number)
		}
	}
	if want := fmt.Sprintf("%s %s: error %d", f.Op, f.Name, int(number)); err.Error() != want {
		t.Fatalf("the words are %q, want %q", err.Error(), want)
	}
	return f.Op, f.Name, f.Step, number
}

// numbers are the errors that a disk may answer.
var numbers = []api.Errno{api.ErrArg, api.ErrIO, api.ErrSpace, api.ErrMissing, api.ErrExists, api.ErrName, api.ErrDown}

func newDisk(t *testing.T, space int, files ...string) *disk.Disk {
	t.Helper()
	d, err := disk.New(space)
	if d == nil || err != nil {
		t.Fatalf("New(%d) = %v, %v", space, d, err)
	}
	for i := 0; i+1 < len(files); i += 2 {
		if err := d.Put(files[i], []byte(files[i+1])); err != nil {
			t.Fatal(err)
		}
	}
	return d
}

// does makes calls that must be well.
func does(t *testing.T, d *disk.Disk, calls ...call) {
	t.Helper()
	for _, c := range calls {
		if a := c.on(t, d); a.err != api.OK {
			t.Fatalf("%v: %v", c, a)
		}
	}
}

// fails makes a call that must answer an error, and nothing beside it; with step the number of its step.
func fails(t *testing.T, d *disk.Disk, c call, step int, err api.Errno) {
	t.Helper()
	answers(t, d, c, told{op: c.op, name: c.name, step: step, err: err})
}

func answers(t *testing.T, d *disk.Disk, c call, want told) {
	t.Helper()
	if a := c.on(t, d); a != want {
		t.Fatalf("%v: %+v, want %+v", c, a, want)
	}
}

// writes makes an append that must answer a number beside an error.
func writes(t *testing.T, d *disk.Disk, c call, n, step int, err api.Errno) {
	t.Helper()
	answers(t, d, c, told{n: n, op: c.op, name: c.name, step: step, err: err})
}

// state is all that is to be seen of a disk that is up: names, bytes, stamps.
type state struct {
	name, bytes string
	stamp       api.Stamp
}

// look reads all files, which takes two steps a file.
func look(t *testing.T, d *disk.Disk) []state {
	t.Helper()
	var all []state
	for _, name := range d.Names() {
		b, stamp := read(name).on(t, d), stamp(name).on(t, d)
		if b.err != api.OK || stamp.err != api.OK {
			t.Fatalf("%s: %v, %v", name, b, stamp)
		}
		all = append(all, state{name, b.bytes, stamp.stamp})
	}
	return all
}

// holds: names and bytes, one behind the other.
func holds(t *testing.T, d *disk.Disk, want ...string) {
	t.Helper()
	got := []string{}
	for _, s := range look(t, d) {
		got = append(got, s.name, s.bytes)
	}
	if !slices.Equal(got, want) {
		t.Fatalf("the disk holds %q, want %q", got, want)
	}
}

func stays(t *testing.T, what string, d *disk.Disk, was []state) {
	t.Helper()
	if is := look(t, d); !slices.Equal(is, was) {
		t.Fatalf("%s: %v, want %v", what, is, was)
	}
}

func stamped(t *testing.T, d *disk.Disk, name string, number, size, count int) {
	t.Helper()
	if s, err := d.Stamp(name); err != nil || s != (api.Stamp{number, size, count}) {
		t.Fatalf("Stamp(%q) = %v, %v, want %v", name, s, err, []int{number, size, count})
	}
}

func counted(t *testing.T, d *disk.Disk, steps int) {
	t.Helper()
	if n := d.Steps(); n != steps {
		t.Fatalf("Steps() = %d, want %d", n, steps)
	}
}

func fault(step, kind int) api.Fault { return api.Fault{Step: step, Kind: kind} }

func cutting(step, kind, names int, bytes ...int) api.Fault {
	return api.Fault{Step: step, Kind: kind, Cut: api.Cut{Names: names, Bytes: bytes}}
}

func parting(step, part int) api.Fault {
	return api.Fault{Step: step, Kind: api.FaultPart, Part: part}
}
