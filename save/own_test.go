package save_test

import (
	"slices"
	"testing"

	"copyist/api"
	"copyist/piece"
	"copyist/save"
)

// spoil writes over a list and its spare room.
func spoil(b []byte) {
	b = b[:cap(b)]
	for i := range b {
		b[i] = '#'
	}
}

// TestTwoFiles, P1710: two Files of one name know each of itself alone.
func TestTwoFiles(t *testing.T) {
	d := newDisk(t, 999, "a", mark8+"old")
	one, two := open(t, d, "a"), open(t, d, "a")
	is(t, "one", one.Save(text(t, "1"), false), api.OK)
	knows(t, "two", two, api.Stamp{1, 6, 1})
	is(t, "two", two.Save(text(t, "2"), false), api.ErrChanged)
	is(t, "two", two.Save(text(t, "2"), true), api.OK)
	is(t, "one", one.Save(text(t, "3"), false), api.ErrChanged)
	holds(t, "two", d, "a", mark8+"2")

	// what one has tried is not the other's
	plan(d, fault(6, api.FaultLie))
	is(t, "two lies", two.Save(text(t, "4"), false), api.ErrIO)
	plan(d)
	is(t, "one", one.Save(text(t, "5"), false), api.ErrChanged)
	is(t, "two", two.Save(text(t, "6"), false), api.OK)

	// nor its name
	is(t, "one", one.As("b"), api.OK)
	is(t, "two", two.Save(text(t, "7"), false), api.OK)
	is(t, "one", one.Save(text(t, "8"), false), api.OK)
	holds(t, "both", d, "a", mark8+"7", "b", mark8+"8")

	// two disks have nothing in common at all
	other := newDisk(t, 999, "a", "old")
	third := open(t, other, "a")
	is(t, "third", third.Save(text(t, "9"), false), api.OK)
	is(t, "two", two.Save(text(t, "10"), false), api.OK)
	holds(t, "both", d, "a", mark8+"10", "b", mark8+"8")
	holds(t, "the other", other, "a", "9")
}

// TestNewMemory, P1710: what Open answers is nobody else's.
func TestNewMemory(t *testing.T) {
	for _, all := range []string{"old", mark8 + "old", mark16 + "o\x00", mark61 + "\x00o", mark8, ""} {
		d := newDisk(t, 999, "a", all)
		f, l, e := save.Open(d, "a", api.Auto, 9)
		is(t, "Open", e, api.OK)
		again, m, e := save.Open(d, "a", api.Auto, 9)
		is(t, "Open", e, api.OK)
		spoil(l.Data)
		_ = append(l.Data, "more than there was"...)
		if string(m.Data) != all[m.Mark:] {
			t.Fatalf("%q: %q", all, m.Data)
		}
		spoil(m.Data)
		holds(t, "spoilt", d, "a", all)
		is(t, "Save", f.Save(text(t, "x"), false), api.OK)
		holds(t, "the mark", d, "a", all[:l.Mark]+"x")
		is(t, "Save", again.Save(text(t, "y"), true), api.OK)
		holds(t, "the mark", d, "a", all[:l.Mark]+"y")
	}
}

// TestTextStays, P1710: a text is as it was, its tags too, and is not kept.
func TestTextStays(t *testing.T) {
	for step := range 9 {
		for _, kind := range kinds {
			d := newDisk(t, 999, "a", mark8+"old")
			f := open(t, d, "a")
			x := text(t, "some\r\nword\xC3")
			if e := x.Change([]api.Edit{{From: 2, To: 4, Put: []int{233, 10}}, {From: 9, To: 9, Put: []int{-200}}}); e != api.OK {
				t.Fatal(e)
			}
			atoms, tags, bytes := x.Atoms(0, 99), x.Tags(0, 99), x.Bytes()
			plan(d, fault(step, kind))
			e := f.Save(x, false)
			d.Restart()
			plan(d, fault(step, kind))
			f.Copy("c", x, true)
			if !slices.Equal(x.Atoms(0, 99), atoms) || !slices.Equal(x.Tags(0, 99), tags) || !slices.Equal(x.Bytes(), bytes) {
				t.Fatalf("step %d, kind %d: the text is changed", step, kind)
			}
			d.Restart()
			plan(d)
			change(t, x)
			b, err := d.Read("a")
			if err != nil || e == api.OK && string(b) != mark8+string(bytes) {
				t.Fatalf("the file changes with the text: %q, %v", b, err)
			}
			is(t, "another text", f.Save(text(t, "other"), true), api.OK)
			if b, _ := d.Read("a"); string(b) != mark8+"other" {
				t.Fatalf("another text: %q", b)
			}
		}
	}
}

// change takes all of a text away.
func change(t *testing.T, x *piece.Text) {
	t.Helper()
	if e := x.Change([]api.Edit{{From: 0, To: x.Len(), Put: []int{'!'}}}); e != api.OK {
		t.Fatal(e)
	}
}

// TestStamp, P1706: of a new file, behind Open, Save, Copy, As.
func TestStamp(t *testing.T) {
	d := newDisk(t, 9999, "a", mark8+"old")
	f := open(t, d, "n")
	knows(t, "new", f, api.Stamp{0, 0, 0})
	f = open(t, d, "a")
	knows(t, "Open", f, api.Stamp{1, 6, 1})
	is(t, "Save", f.Save(text(t, "1"), false), api.OK)
	knows(t, "Save", f, api.Stamp{2, 4, 1})
	is(t, "Copy", f.Copy("c", text(t, "12"), false), api.OK)
	knows(t, "Copy", f, api.Stamp{2, 4, 1})
	putAll(t, d, "a", "other")
	knows(t, "another hand", f, api.Stamp{2, 4, 1})
	is(t, "changed", f.Save(text(t, "3"), false), api.ErrChanged)
	knows(t, "changed", f, api.Stamp{2, 4, 1})
	is(t, "force", f.Save(text(t, letters(3000)), true), api.OK)
	knows(t, "force", f, api.Stamp{4, 3003, 3})
	is(t, "no As", f.As("c"), api.ErrExists)
	knows(t, "no As", f, api.Stamp{4, 3003, 3})
	is(t, "As", f.As("d"), api.OK)
	knows(t, "As", f, api.Stamp{})
	plan(d)
	f.Stamp()
	steps(t, "Stamp is no step", d, 0)
}
