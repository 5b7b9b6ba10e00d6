package disk_test

import (
	"fmt"
	"slices"
	"strings"
	"testing"

	"copyist/api"
)

// everyLoss are the power losses of a disk that few acts and few bytes wait on.
func everyLoss() []call {
	var all []call
	for _, names := range []int{0, 1, 2, 3, 9} {
		all = append(all, crash(names), crash(names, 1, 1, 1), crash(names, 99, 99, 99))
	}
	return all
}

// survives: whatever power loss comes, the disk that calls have made holds the same.
func survives(t *testing.T, space int, calls []call, want ...string) {
	t.Helper()
	for _, loss := range everyLoss() {
		d := newDisk(t, space)
		does(t, d, calls...)
		does(t, d, loss, restart())
		holds(t, d, want...)
	}
}

// TestPut, P1603: a file's number, bytes, count, and that all lasts.
func TestPut(t *testing.T) {
	d := newDisk(t, 10, "b", "one", "a", "")
	stamped(t, d, "b", 1, 3, 1)
	stamped(t, d, "a", 2, 0, 1)
	does(t, d, put("b", "other"), put("a", ""), put("b", ""))
	stamped(t, d, "b", 1, 0, 3)
	stamped(t, d, "a", 2, 0, 2)
	does(t, d, add("a", "xyz"), put("a", "k"))
	stamped(t, d, "a", 2, 1, 4)
	holds(t, d, "a", "k", "b", "")
	does(t, d, crash(0), restart())
	stamped(t, d, "a", 2, 1, 4)
	holds(t, d, "a", "k", "b", "")
}

// TestPutIsNoStep, P1603, P1604: it is not counted, and no fault meets it.
func TestPutIsNoStep(t *testing.T) {
	d := newDisk(t, 10)
	does(t, d, plan(fault(1, api.FaultAhead), fault(2, api.FaultAhead)))
	does(t, d, put("a", "x"), put("a", "y"))
	fails(t, d, put("/", ""), 0, api.ErrName)
	counted(t, d, 0)
	fails(t, d, read("a"), 1, api.ErrDown)
}

// TestPutInTheMidst, P1603: with it every act of the directory lasts; of the files' bytes only its own.
func TestPutInTheMidst(t *testing.T) {
	survives(t, 99, []call{put("a", "old"), mk("t"), add("t", "new"), sync("t"), rename("t", "a"), put("z", "")}, "a", "new", "z", "")
	survives(t, 99, []call{put("a", "old"), mk("t"), put("t", "other"), remove("a"), put("t", "third")}, "t", "third")
	survives(t, 99, []call{put("a", "old"), put("b", "2"), rename("a", "c"), remove("b"), put("c", "3")}, "c", "3")
	survives(t, 99, []call{put("a", "old"), remove("a"), put("a", "new")}, "a", "new")

	d := newDisk(t, 99)
	does(t, d, mk("t"), add("t", "un"), put("z", "s"), add("t", "synced"), crash(9, 3), restart())
	holds(t, d, "t", "uns", "z", "s")
	d = newDisk(t, 99)
	does(t, d, mk("t"), add("t", "unsynced"), put("z", "s"), crash(0), restart())
	holds(t, d, "t", "", "z", "s")

	// one that is refused makes nothing last
	for _, c := range []call{put("/", ""), put("b", strings.Repeat("x", 100))} {
		d = newDisk(t, 99, "a", "old")
		does(t, d, mk("t"), remove("a"))
		c.on(t, d)
		does(t, d, crash(0), restart())
		holds(t, d, "a", "old")
	}
	// a file of which the directory that lasts had another name
	d = newDisk(t, 99, "a", "old")
	does(t, d, rename("a", "b"), put("b", "new"), mk("a"), crash(0), restart())
	holds(t, d, "b", "new")
	stamped(t, d, "b", 1, 3, 2)
}

// TestPutSpace, P1603: the space to the last byte and by one more, a file's own bytes giving way.
func TestPutSpace(t *testing.T) {
	d := newDisk(t, 10, "a", "12345", "b", "678")
	fails(t, d, put("c", "xyz"), 0, api.ErrSpace)
	fails(t, d, put("a", "12345678"), 0, api.ErrSpace)
	does(t, d, put("a", "1234567"))
	fails(t, d, put("c", "x"), 0, api.ErrSpace)
	does(t, d, put("c", ""), put("b", ""), put("a", "1234567890"), put("a", "0987654321"))
	fails(t, d, put("a", "12345678901"), 0, api.ErrSpace)
	holds(t, d, "a", "0987654321", "b", "", "c", "")
	stamped(t, d, "c", 3, 0, 1) // none that were refused have taken a number
	stamped(t, d, "a", 1, 10, 4)

	// a file that has lost its name has no room, though it may come back
	does(t, d, remove("a"), put("b", "abcdefghij"))
	holds(t, d, "b", "abcdefghij", "c", "")
	d = newDisk(t, 0)
	does(t, d, put("a", ""))
	fails(t, d, put("a", "x"), 0, api.ErrSpace)
}

// TestMaxFiles, P1603, P1606, P1609: as many names as there may be, and one more.
func TestMaxFiles(t *testing.T) {
	for count, one := range []func(string) call{mk, func(name string) call { return put(name, "") }} {
		d := newDisk(t, 99)
		for i := range api.MaxFiles {
			does(t, d, one(fmt.Sprintf("f%02d", i)))
		}
		does(t, d, plan())
		fails(t, d, put("z", ""), 0, api.ErrSpace)
		fails(t, d, mk("z"), 1, api.ErrSpace)
		fails(t, d, mk("f00"), 2, api.ErrExists)
		does(t, d, put("f00", "x"))
		does(t, d, rename("f00", "z"))
		fails(t, d, mk("f00"), 4, api.ErrSpace)
		fails(t, d, put("f00", ""), 0, api.ErrSpace)
		does(t, d, rename("z", "f01")) // over a name that is there: one is free
		does(t, d, mk("y"))
		fails(t, d, mk("z"), 7, api.ErrSpace)
		does(t, d, remove("y"), put("z", "!"))
		fails(t, d, put("y", ""), 0, api.ErrSpace)
		if n := len(d.Names()); n != 16 {
			t.Fatalf("%d names", n)
		}
		stamped(t, d, "f01", 1, 1, count+1)
		stamped(t, d, "z", 18, 1, 1)
	}
}

// TestMake, P1606: a new file, without bytes, that was never written, with the next number.
func TestMake(t *testing.T) {
	d := newDisk(t, 0)
	does(t, d, mk("b"), mk("a"))
	stamped(t, d, "b", 1, 0, 0)
	stamped(t, d, "a", 2, 0, 0)
	fails(t, d, mk("a"), 5, api.ErrExists)
	fails(t, d, mk("*"), 6, api.ErrName)
	does(t, d, remove("b"), mk("b"))
	stamped(t, d, "b", 3, 0, 0)
	does(t, d, put("c", ""))
	stamped(t, d, "c", 4, 0, 1)
}

// TestAppend, P1607: as much as there is room for.
func TestAppend(t *testing.T) {
	d := newDisk(t, 10, "a", "old")
	answers(t, d, add("a", ""), told{})
	stamped(t, d, "a", 1, 3, 1)
	answers(t, d, add("a", "er"), told{n: 2})
	stamped(t, d, "a", 1, 5, 2)
	does(t, d, mk("b"))
	answers(t, d, add("b", "12345"), told{n: 5})
	stamped(t, d, "b", 2, 5, 1)
	answers(t, d, add("b", ""), told{})
	writes(t, d, add("b", "6"), 0, 9, api.ErrSpace)
	writes(t, d, add("a", "more"), 0, 10, api.ErrSpace)
	stamped(t, d, "b", 2, 5, 1)
	stamped(t, d, "a", 1, 5, 2)
	does(t, d, put("a", "o"))
	writes(t, d, add("b", "67890"), 4, 13, api.ErrSpace)
	stamped(t, d, "b", 2, 9, 2)
	holds(t, d, "a", "o", "b", "123456789")
	does(t, d, remove("a")) // its room is free, though it may come back
	answers(t, d, add("b", "0"), told{n: 1})
	writes(t, d, add("b", "!"), 0, 21, api.ErrSpace)
	fails(t, d, add("a", ""), 22, api.ErrMissing)
	fails(t, d, add("", ""), 23, api.ErrName)
}

// TestAppendFits: every room against every number of bytes.
func TestAppendFits(t *testing.T) {
	for room := range 7 {
		for n := range 9 {
			d := newDisk(t, 3+room, "a", "old", "b", "")
			b := "abcdefghi"[:n]
			fits := min(n, room)
			want := told{n: fits}
			if fits < n {
				want = told{n: fits, op: "append", name: "b", step: 1, err: api.ErrSpace}
			}
			answers(t, d, add("b", b), want)
			holds(t, d, "a", "old", "b", b[:fits])
			stamped(t, d, "b", 2, fits, 1+min(fits, 1))
		}
	}
}

// TestTooMuchUsed, P1603, P1607, P1611: a power loss may bring back more bytes than there is space for; then there is no room.
func TestTooMuchUsed(t *testing.T) {
	d := newDisk(t, 10, "a", "12345678", "b", "9")
	does(t, d, remove("a"), add("b", "bcdefghij"), sync("b"), crash(0), restart())
	holds(t, d, "a", "12345678", "b", "9bcdefghij")
	does(t, d, plan())
	writes(t, d, add("a", "x"), 0, 1, api.ErrSpace)
	writes(t, d, add("b", "xyz"), 0, 2, api.ErrSpace)
	answers(t, d, add("b", ""), told{})
	does(t, d, plan(parting(1, 3)))
	writes(t, d, add("b", "xyz"), 0, 1, api.ErrIO)
	fails(t, d, put("c", ""), 0, api.ErrSpace)
	fails(t, d, put("a", "123"), 0, api.ErrSpace)
	fails(t, d, put("b", "123"), 0, api.ErrSpace)
	stamped(t, d, "a", 1, 8, 1)
	stamped(t, d, "b", 2, 10, 2)
	does(t, d, mk("c"), put("a", ""), put("b", "12"), add("c", "12345678"))
	holds(t, d, "a", "", "b", "12", "c", "12345678")
	fails(t, d, put("a", "1"), 0, api.ErrSpace)

	// the whole space twice
	half := strings.Repeat("h", api.MaxSpace)
	d = newDisk(t, api.MaxSpace, "a", half)
	does(t, d, rename("a", "b"), remove("b"), mk("a"), add("a", half), sync("a"))
	writes(t, d, add("a", "x"), 0, 6, api.ErrSpace)
	does(t, d, crash(1), restart())
	holds(t, d, "b", half)
}

// TestSync, P1608: the bytes, not the name; the name, not the bytes.
func TestSync(t *testing.T) {
	made := []call{mk("t"), add("t", "abc")}
	for _, row := range []struct {
		more []call
		loss call
		want []string
	}{
		{nil, crash(0, 9), nil},
		{[]call{sync("t")}, crash(0, 9), nil},
		{[]call{sync("t")}, crash(1), []string{"t", "abc"}},
		{[]call{syncDir()}, crash(0), []string{"t", ""}},
		{[]call{syncDir()}, crash(0, 2), []string{"t", "ab"}},
		{[]call{sync("t"), syncDir()}, crash(0), []string{"t", "abc"}},
		{[]call{syncDir(), sync("t")}, crash(0), []string{"t", "abc"}},
		{[]call{syncDir(), sync("t"), add("t", "de")}, crash(0), []string{"t", "abc"}},
		{[]call{syncDir(), sync("t"), add("t", "de")}, crash(0, 1), []string{"t", "abcd"}},
		{[]call{syncDir(), sync("t"), add("t", "de"), sync("t"), sync("t")}, crash(0), []string{"t", "abcde"}},
	} {
		d := newDisk(t, 99)
		does(t, d, slices.Concat(made, row.more, []call{row.loss, restart()})...)
		holds(t, d, row.want...)
	}
	d := newDisk(t, 99, "a", "old")
	was := look(t, d)
	does(t, d, sync("a"), syncDir(), sync("a"), syncDir())
	stays(t, "syncs change nothing that is seen", d, was)
}

// TestRename, P1609: over another file, to itself, and back.
func TestRename(t *testing.T) {
	d := newDisk(t, 9, "a", "1", "b", "22", "c", "333")
	does(t, d, rename("b", "b"))
	holds(t, d, "a", "1", "b", "22", "c", "333")
	does(t, d, rename("b", "a"))
	holds(t, d, "a", "22", "c", "333")
	stamped(t, d, "a", 2, 2, 1)
	does(t, d, rename("a", "d"))
	holds(t, d, "c", "333", "d", "22")
	does(t, d, rename("d", "b"), mk("a"), add("a", "four"))
	writes(t, d, add("a", "!"), 0, d.Steps()+1, api.ErrSpace) // 4 + 2 + 3: that which lost its name has no room
	stamped(t, d, "b", 2, 2, 1)
	stamped(t, d, "a", 4, 4, 1)
	holds(t, d, "a", "four", "b", "22", "c", "333")
}

// TestRenameIsAnAct, P1609, P1611: one to itself is none; there and back are two.
func TestRenameIsAnAct(t *testing.T) {
	begun := []call{put("a", "1"), rename("a", "a"), rename("a", "b"), rename("b", "b"), rename("b", "a"), rename("a", "a"), rename("a", "c"), rename("c", "c")}
	for names, want := range []string{"a", "b", "a", "c", "c"} {
		d := newDisk(t, 9)
		does(t, d, begun...)
		does(t, d, crash(names), restart())
		holds(t, d, want, "1")
		stamped(t, d, want, 1, 1, 1)
	}
	// steps that fail are none either
	d := newDisk(t, 9, "a", "1")
	for _, c := range []call{mk("a"), rename("x", "y"), rename("a", "/"), remove("x"), mk("/")} {
		if c.on(t, d).err == api.OK {
			t.Fatal(c)
		}
	}
	does(t, d, mk("t"), remove("a"), crash(1), restart())
	holds(t, d, "a", "1", "t", "")
}

// TestRemove, P1609: and Make again under one name is another file.
func TestRemove(t *testing.T) {
	begun := []call{put("a", "old"), add("a", "er"), remove("a"), mk("a"), add("a", "new"), sync("a"), remove("a"), mk("a")}
	for _, row := range []struct {
		loss   call
		bytes  string
		number int
		count  int
	}{
		{crash(0), "old", 1, 2},
		{crash(0, 1), "olde", 1, 2},
		{crash(2), "new", 2, 1},
		{crash(4), "", 3, 0},
		{crash(99, 99), "", 3, 0},
	} {
		d := newDisk(t, 9)
		does(t, d, begun...)
		holds(t, d, "a", "")
		does(t, d, row.loss, restart())
		holds(t, d, "a", row.bytes)
		stamped(t, d, "a", row.number, len(row.bytes), row.count)
		does(t, d, mk("b"))
		stamped(t, d, "b", 4, 0, 0) // no number is given again, whatever was lost
	}
	for _, names := range []int{1, 3} {
		d := newDisk(t, 9)
		does(t, d, begun...)
		does(t, d, crash(names, 9), restart())
		holds(t, d)
	}
	d := newDisk(t, 9, "a", "old")
	does(t, d, remove("a"))
	fails(t, d, remove("a"), 2, api.ErrMissing)
	fails(t, d, read("a"), 3, api.ErrMissing)
	fails(t, d, rename("a", "b"), 4, api.ErrMissing)
}

// TestTold, P1610: what is read, and the names as strings are compared.
func TestTold(t *testing.T) {
	all := []string{"~", "a", "a~", "ab", "B", "_", "-", ".", "0", "10", "9", "Z", "z", "a.b", "a-", "A"}
	d := newDisk(t, 99)
	for i, name := range all {
		does(t, d, put(name, strings.Repeat("x", i%4)))
	}
	want := slices.Sorted(slices.Values(all))
	if got := d.Names(); !slices.Equal(got, want) || !slices.Equal(want, []string{"-", ".", "0", "10", "9", "A", "B", "Z", "_", "a", "a-", "a.b", "ab", "a~", "z", "~"}) {
		t.Fatalf("Names() = %q, want %q", got, want)
	}
	counted(t, d, 0) // Names is no step
	for i, name := range all {
		answers(t, d, read(name), told{bytes: strings.Repeat("x", i%4)})
		answers(t, d, stamp(name), told{stamp: api.Stamp{i + 1, i % 4, 1}})
	}
	does(t, d, plan(fault(1, api.FaultAhead)))
	if got := d.Names(); len(got) != len(all) || d.Steps() != 0 || d.Down() {
		t.Fatal("Names met a fault")
	}
	every := make([]byte, 256)
	for i := range every {
		every[i] = byte(i)
	}
	d = newDisk(t, 512, "a", string(every))
	does(t, d, add("a", string(every)))
	holds(t, d, "a", string(every)+string(every))
}
