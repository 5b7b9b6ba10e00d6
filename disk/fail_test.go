package disk_test

import (
	"errors"
	"strings"
	"testing"

	"copyist/api"
	"copyist/disk"
)

func refusedSpace(t *testing.T, space int) {
	t.Helper()
	d, err := disk.New(space)
	op, name, step, number := taken(t, err)
	if d != nil || op != "new" || name != "" || step != 0 || number != api.ErrArg {
		t.Fatalf("New(%d) = %v, %#v", space, d, err)
	}
	if words := err.Error(); words != "new : error 1" {
		t.Fatalf("New(%d): %q", space, words)
	}
}

// TestNew, P1602: both ends of its bounds, and beyond.
func TestNew(t *testing.T) {
	for _, space := range []int{-1, -2, api.MaxSpace + 1, 1 << 40, -1 << 63, 1<<63 - 1} {
		refusedSpace(t, space)
	}
	for _, space := range []int{0, 1, api.MaxSpace - 1, api.MaxSpace} {
		d := newDisk(t, space)
		if len(d.Names()) != 0 || d.Steps() != 0 || d.Down() {
			t.Fatalf("New(%d): %q, %d, %v", space, d.Names(), d.Steps(), d.Down())
		}
		full := strings.Repeat("x", space)
		fails(t, d, put("a", full+"x"), 0, api.ErrSpace)
		does(t, d, put("a", full))
		holds(t, d, "a", full)
	}
}

// TestWords, P1601: what an error tells, in words too.
func TestWords(t *testing.T) {
	d := newDisk(t, 3, "a", "old")
	for i, row := range []struct {
		call  call
		words string
		err   api.Errno
	}{
		{mk("a"), "make a: error 163", api.ErrExists},
		{mk(""), "make : error 164", api.ErrName},
		{add("a", "x"), "append a: error 161", api.ErrSpace},
		{sync("b"), "sync b: error 162", api.ErrMissing},
		{rename("b", "c"), "rename b: error 162", api.ErrMissing},
		{rename("a", "/"), "rename a: error 164", api.ErrName},
		{rename("/", "a"), "rename /: error 164", api.ErrName},
		{remove("no such: name"), "remove no such: name: error 164", api.ErrName},
		{read("b"), "read b: error 162", api.ErrMissing},
		{stamp("\xff\x00"), "stamp \xff\x00: error 164", api.ErrName},
	} {
		err := raw(d, row.call)
		if op, name, step, number := taken(t, err); op != row.call.op || name != row.call.name || step != i+1 || number != row.err {
			t.Fatalf("%v: %#v", row.call, err)
		}
		if err.Error() != row.words {
			t.Fatalf("%v: %q, want %q", row.call, err.Error(), row.words)
		}
	}
	does(t, d, plan(fault(1, api.FaultRefuse)))
	if err := d.SyncDir(); err == nil || err.Error() != "syncdir : error 160" {
		t.Fatal(err)
	}
	if err := d.Put("b", []byte("x")); err == nil || err.Error() != "put b: error 161" {
		t.Fatal(err)
	}
	does(t, d, crash(0))
	if err := d.Put("b", nil); err == nil || err.Error() != "put b: error 165" {
		t.Fatal(err)
	}
}

// raw is the error of a call, just as it was answered.
func raw(d *disk.Disk, c call) error {
	var err error
	switch c.op {
	case "make":
		err = d.Make(c.name)
	case "append":
		_, err = d.Append(c.name, []byte(c.data))
	case "sync":
		err = d.Sync(c.name)
	case "syncdir":
		err = d.SyncDir()
	case "rename":
		err = d.Rename(c.name, c.to)
	case "remove":
		err = d.Remove(c.name)
	case "read":
		_, err = d.Read(c.name)
	case "stamp":
		_, err = d.Stamp(c.name)
	case "put":
		err = d.Put(c.name, []byte(c.data))
	}
	return err
}

// TestNoError, P1601: where all is well the answer is nil itself, no pointer that is nil.
func TestNoError(t *testing.T) {
	d := newDisk(t, 9, "a", "old")
	for _, c := range []call{put("a", "x"), put("b", ""), mk("c"), add("c", "y"), add("c", ""), sync("c"), syncDir(), rename("c", "d"), rename("d", "d"), remove("d"), read("a"), stamp("a")} {
		if err := raw(d, c); err != nil {
			t.Fatalf("%v: %#v", c, err)
		}
	}
}

// TestFailItself, P1601: Error and Unwrap go by the fields.
func TestFailItself(t *testing.T) {
	f := &disk.Fail{Op: "sync", Name: "n~", Step: 7, Err: api.ErrIO}
	if f.Error() != "sync n~: error 160" || f.Unwrap() != error(api.ErrIO) || !errors.Is(f, api.ErrIO) || errors.Is(f, api.ErrDown) {
		t.Fatalf("%q, %v", f.Error(), f.Unwrap())
	}
	f.Err = nil // whoever has a Fail may take it away
	if f.Error() != "sync n~: " || f.Unwrap() != nil {
		t.Fatalf("%q, %v", f.Error(), f.Unwrap())
	}
}

// everyCall is each call that answers an error, on one name.
func everyCall(name string) []call {
	return []call{put(name, "b"), mk(name), add(name, "b"), sync(name), rename(name, "to"), rename("a", name), remove(name), read(name), stamp(name)}
}

// TestOrder, P1603, P1606 to P1610: of several errors the first one is answered; with it nothing has changed.
func TestOrder(t *testing.T) {
	full := newDisk(t, 3, "a", "old")
	for i := 1; i < api.MaxFiles; i++ {
		does(t, full, put(strings.Repeat("n", i), ""))
	}
	was := look(t, full)
	for _, c := range everyCall("/") {
		a := c.on(t, full)
		if a.err != api.ErrName || a.n != 0 || a.bytes != "" || a.stamp != (api.Stamp{}) {
			t.Fatalf("%v: %v", c, a)
		}
	}
	does(t, full, plan())
	fails(t, full, put("q", "b"), 0, api.ErrSpace)    // both of the reasons
	fails(t, full, put("q", ""), 0, api.ErrSpace)     // the names alone
	fails(t, full, put("a", "long"), 0, api.ErrSpace) // the bytes alone
	fails(t, full, mk("a"), 1, api.ErrExists)         // not ErrSpace
	fails(t, full, mk("q"), 2, api.ErrSpace)
	fails(t, full, add("q", "b"), 3, api.ErrMissing) // not ErrSpace
	fails(t, full, sync("q"), 4, api.ErrMissing)
	fails(t, full, rename("q", "a"), 5, api.ErrMissing)
	fails(t, full, rename("q", "q"), 6, api.ErrMissing)
	fails(t, full, rename("q", ""), 7, api.ErrName) // not ErrMissing
	fails(t, full, rename("", "q"), 8, api.ErrName)
	fails(t, full, rename("", ""), 9, api.ErrName)
	fails(t, full, remove("q"), 10, api.ErrMissing)
	fails(t, full, read("q"), 11, api.ErrMissing)
	fails(t, full, stamp("q"), 12, api.ErrMissing)
	writes(t, full, add("a", "b"), 0, 13, api.ErrSpace)
	stays(t, "errors", full, was)
}

// TestDownFirst, P1603, P1604: on a disk that is down ErrDown goes ahead of all others, and no step has a number.
func TestDownFirst(t *testing.T) {
	d := newDisk(t, 3, "a", "old")
	does(t, d, read("a"), plan(fault(1, api.FaultLie), fault(2, api.FaultAhead)), crash(0))
	for _, name := range []string{"a", "b", "", "/", strings.Repeat("n", 33)} {
		for _, c := range everyCall(name) {
			fails(t, d, c, 0, api.ErrDown)
		}
	}
	fails(t, d, syncDir(), 0, api.ErrDown)
	counted(t, d, 0)
	does(t, d, restart())
	holds(t, d, "a", "old")
}

// TestNames, P1603 to P1610: how long a name may be, and of which bytes.
func TestNames(t *testing.T) {
	for b := range 256 {
		one := string([]byte{byte(b)})
		for _, name := range []string{one, "a" + one, one + "a", strings.Repeat("x", 31) + one, strings.Repeat("x", 15) + one + strings.Repeat("y", 16)} {
			tryName(t, name, plainName(one))
		}
	}
	for n := range 80 {
		tryName(t, strings.Repeat("n", n), n >= 1 && n <= 32)
		tryName(t, strings.Repeat("~", n), n >= 1 && n <= 32)
	}
	for _, name := range []string{"é", "a\u0301", ".", "..", "-", "~", "a~", "...", "__", "\xff\xfe", "A.b-C_9~", "a\x00", " a", "a ", strings.Repeat("n", 1<<20), strings.Repeat("n", 32) + "/"} {
		tryName(t, name, plainName(name))
	}
}

// tryName hands a name to every call.
func tryName(t *testing.T, name string, good bool) {
	t.Helper()
	d := newDisk(t, 9)
	if !good {
		does(t, d, put("a", "old"))
		for i, c := range everyCall(name) {
			step := i // Put is no step
			if c.op == "rename" && c.to == name {
				answers(t, d, c, told{op: "rename", name: "a", step: step, err: api.ErrName})
				continue
			}
			fails(t, d, c, step, api.ErrName)
		}
		holds(t, d, "a", "old")
		return
	}
	other := "other"
	does(t, d, put(name, "1"), mk(other), remove(other), rename(name, other), rename(other, name), add(name, "2"), sync(name), stamp(name))
	holds(t, d, name, "12")
	does(t, d, remove(name), mk(name), put(name, "3"))
	holds(t, d, name, "3")
}
