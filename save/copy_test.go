package save_test

import (
	"testing"

	"copyist/api"
	"copyist/save"
)

// TestCopy, P1704: to a name that is free, to one that is there; the steps, the mark, and what is known.
func TestCopy(t *testing.T) {
	d := newDisk(t, 99, "a", mark8+"old", "b", "x")
	f := open(t, d, "a")
	was := f.Stamp()
	for _, row := range []struct {
		name, data string
		force      bool
		want       api.Errno
		count      int
		holds      []string
	}{
		{"b", "y", false, api.ErrExists, 1, []string{"a", mark8 + "old", "b", "x"}},
		{"b", "y", true, api.OK, 7, []string{"a", mark8 + "old", "b", mark8 + "y"}},
		{"c", "z", false, api.OK, 7, []string{"a", mark8 + "old", "b", mark8 + "y", "c", mark8 + "z"}},
		{"c", "z", false, api.ErrExists, 1, []string{"a", mark8 + "old", "b", mark8 + "y", "c", mark8 + "z"}},
		{"d", "", true, api.OK, 7, []string{"a", mark8 + "old", "b", mark8 + "y", "c", mark8 + "z", "d", mark8}},
		{"c~", "k", true, api.ErrName, 0, []string{"a", mark8 + "old", "b", mark8 + "y", "c", mark8 + "z", "d", mark8}},
		{"", "k", true, api.ErrName, 0, []string{"a", mark8 + "old", "b", mark8 + "y", "c", mark8 + "z", "d", mark8}},
	} {
		plan(d)
		is(t, row.name, f.Copy(row.name, text(t, row.data), row.force), row.want)
		steps(t, row.name, d, row.count)
		holds(t, row.name, d, row.holds...)
		knows(t, row.name, f, was)
	}
	is(t, "Save", f.Save(text(t, "new"), false), api.OK) // the file is the one that it was
}

// TestCopyOwn, P1704: to the file's own name: as Save does, with force and without.
func TestCopyOwn(t *testing.T) {
	d := newDisk(t, 99, "a", "old")
	f := open(t, d, "a")
	plan(d)
	is(t, "own", f.Copy("a", text(t, "1"), false), api.OK)
	steps(t, "own", d, 7)
	knows(t, "own", f, stampOf(t, d, "a"))
	putAll(t, d, "a", "other")
	is(t, "changed", f.Copy("a", text(t, "2"), false), api.ErrChanged)
	is(t, "force", f.Copy("a", text(t, "2"), true), api.OK)
	knows(t, "force", f, stampOf(t, d, "a"))
	plan(d, fault(6, api.FaultLie))
	is(t, "a lie", f.Copy("a", text(t, "3"), false), api.ErrIO)
	plan(d)
	is(t, "tried", f.Copy("a", text(t, "4"), false), api.OK)
	holds(t, "own", d, "a", "4")

	f = open(t, d, "new") // its own name, though there is no file
	is(t, "new", f.Copy("new", text(t, "5"), false), api.OK)
	is(t, "new", f.Copy("new", text(t, "6"), false), api.OK)
	holds(t, "new", d, "a", "4", "new", "6")
}

// TestCopyBetween, P1704: what is known and tried of the File stays, whatever comes of the copy.
func TestCopyBetween(t *testing.T) {
	for step := range 9 {
		for _, kind := range kinds[:3] {
			d := newDisk(t, 99, "a", "old", "c~", "left")
			f := open(t, d, "a")
			was := f.Stamp()
			plan(d, fault(6, api.FaultLie)) // what is tried is there
			is(t, "a lie", f.Save(text(t, "lied"), false), api.ErrIO)
			plan(d, fault(step, kind))
			f.Copy("c", text(t, "copy"), step%2 == 0)
			knows(t, "known", f, was)
			plan(d)
			is(t, "tried", f.Save(text(t, "x"), false), api.OK)
			if err := d.Remove("a"); err != nil {
				t.Fatal(err)
			}
			is(t, "known", f.Save(text(t, "y"), false), api.ErrChanged)
		}
	}
	// a copy that lied is no file of ours: it is there
	d := newDisk(t, 99, "a", "old")
	f := open(t, d, "a")
	plan(d, fault(6, api.FaultLie))
	is(t, "a lie", f.Copy("c", text(t, "lied"), false), api.ErrIO)
	plan(d)
	is(t, "there", f.Copy("c", text(t, "x"), false), api.ErrExists)
	is(t, "force", f.Copy("c", text(t, "x"), true), api.OK)
	holds(t, "force", d, "a", "old", "c", "x")
}

// TestCopyFaults, P1704: every kind of fault at each step; what is left.
func TestCopyFaults(t *testing.T) {
	for step := 1; step <= 7; step++ {
		for _, kind := range kinds {
			d := newDisk(t, 99, "a", "old")
			f := open(t, d, "a")
			was := f.Stamp()
			plan(d, fault(step, kind))
			e := f.Copy("c", text(t, "new"), false)
			switch {
			case kind >= api.FaultAhead:
				is(t, "down", e, api.ErrDown)
				steps(t, "down", d, step)
				d.Restart()
			case step == 1 && kind == api.FaultLie: // it fails by itself
				is(t, "missing", e, api.OK)
				steps(t, "missing", d, 7)
			default:
				is(t, "fault", e, api.ErrIO)
				count := step + 1
				if step == 1 || step == 7 {
					count = step
				}
				steps(t, "fault", d, count)
			}
			there := e == api.OK || step == 7 && kind != api.FaultAhead || step == 6 && kind == api.FaultLie
			if there {
				holds(t, "copied", d, "a", "old", "c", "new")
			} else {
				holds(t, "not copied", d, "a", "old")
			}
			knows(t, "copy", f, was)
		}
	}
}

// TestAs, P1705, P1706: the name, the mark, no stamp; the old file stays.
func TestAs(t *testing.T) {
	d := newDisk(t, 99, "a", mark8+"old", "b", "x")
	f := open(t, d, "a")
	was := f.Stamp()
	for _, row := range []struct {
		name  string
		want  api.Errno
		count int
	}{{"b", api.ErrExists, 1}, {"a", api.ErrExists, 1}, {"", api.ErrName, 0}, {"c~", api.ErrName, 0}} {
		plan(d)
		is(t, row.name, f.As(row.name), row.want)
		steps(t, row.name, d, row.count)
		knows(t, row.name, f, was)
	}
	is(t, "still a", f.Save(text(t, "1"), false), api.OK)
	plan(d)
	is(t, "c", f.As("c"), api.OK)
	steps(t, "c", d, 1)
	knows(t, "c", f, api.Stamp{})
	holds(t, "nothing is made", d, "a", mark8+"1", "b", "x")
	plan(d)
	is(t, "Save", f.Save(text(t, "2"), false), api.OK)
	steps(t, "Save", d, 7)
	holds(t, "Save", d, "a", mark8+"1", "b", "x", "c", mark8+"2")
	knows(t, "Save", f, stampOf(t, d, "c"))
	is(t, "a is another one now", f.Copy("a", text(t, "3"), false), api.ErrExists)

	// what another hand makes there first is not ours
	is(t, "d", f.As("d"), api.OK)
	is(t, "d again, which is not there", f.As("d"), api.OK)
	putAll(t, d, "d", "other")
	is(t, "another hand", f.Save(text(t, "4"), false), api.ErrChanged)
	is(t, "there", f.As("d"), api.ErrExists)
	is(t, "force", f.Save(text(t, "4"), true), api.OK)
	holds(t, "force", d, "a", mark8+"1", "b", "x", "c", mark8+"2", "d", mark8+"4")
}

// TestAsForgets, P1705: what was tried under the old name is none of the new one's.
func TestAsForgets(t *testing.T) {
	d := newDisk(t, 99, "a", "old")
	f := open(t, d, "a")
	plan(d, fault(6, api.FaultLie))
	is(t, "a lie", f.Save(text(t, "lied"), false), api.ErrIO)
	is(t, "As", f.As("c"), api.OK)
	if err := d.Rename("a", "c"); err != nil { // another hand; its stamp is that which was tried
		t.Fatal(err)
	}
	is(t, "forgotten", f.Save(text(t, "x"), false), api.ErrChanged)
	knows(t, "forgotten", f, api.Stamp{})
}

// TestAsFaults, P1705: with an error nothing is changed.
func TestAsFaults(t *testing.T) {
	for _, kind := range kinds {
		for _, name := range []string{"a", "b", "c"} {
			d := newDisk(t, 99, "a", "old", "b", "x")
			f := open(t, d, "a")
			was := f.Stamp()
			plan(d, fault(1, kind))
			e := f.As(name)
			steps(t, name, d, 1)
			switch {
			case kind >= api.FaultAhead:
				is(t, name, e, api.ErrDown)
				d.Restart()
			case kind == api.FaultLie && name == "c":
				is(t, name, e, api.OK)
				continue
			default:
				is(t, name, e, api.ErrIO)
			}
			knows(t, name, f, was)
			is(t, "Save", f.Save(text(t, "new"), false), api.OK)
			holds(t, "Save", d, "a", "new", "b", "x")
		}
	}
}

// TestTidy, P1707: which names are taken away, and by how many steps.
func TestTidy(t *testing.T) {
	for _, row := range []struct {
		names, left []string
		count       int
	}{
		{nil, nil, 0},
		{[]string{"a", "b", "~a", "a~b"}, []string{"a", "a~b", "b", "~a"}, 0},
		{[]string{"a", "a~"}, []string{"a"}, 2},
		{[]string{"~"}, nil, 2},
		{[]string{"a", "~", "~~", "b~", "b", "z~"}, []string{"a", "b"}, 5},
	} {
		d := newDisk(t, 99)
		for _, name := range row.names {
			putAll(t, d, name, "x")
		}
		plan(d)
		is(t, "Tidy", save.Tidy(d), api.OK)
		steps(t, "Tidy", d, row.count)
		names(t, "Tidy", d, row.left...)
		d.Crash(api.Cut{})
		d.Restart()
		names(t, "and it lasts", d, row.left...)
		plan(d)
		is(t, "once more", save.Tidy(d), api.OK)
		steps(t, "once more", d, 0)
	}
}

// TestTidyFaults, P1707: an error at each step, in the order of the names; on a disk that is down.
func TestTidyFaults(t *testing.T) {
	all := []string{"a", "a~", "b~", "c", "d~"}
	left := [][]string{nil, all, {"a", "b~", "c", "d~"}, {"a", "c", "d~"}, {"a", "c"}, {"a", "c"}}
	for step := 1; step <= 5; step++ {
		for _, kind := range kinds {
			for _, cut := range []int{0, 9} {
				d := newDisk(t, 99)
				for _, name := range all {
					putAll(t, d, name, "x")
				}
				plan(d, cutting(step, kind, cut))
				e := save.Tidy(d)
				want := left[step]
				switch {
				case step == 5:
					is(t, "behind it", e, api.OK)
				case kind >= api.FaultAhead:
					is(t, "down", e, api.ErrDown)
					is(t, "down", save.Tidy(d), api.ErrDown)
					d.Restart()
					if cut == 0 && (step < 4 || kind == api.FaultAhead) {
						want = all
					} else if step < 4 && kind == api.FaultBehind {
						want = left[step+1]
					}
				default:
					is(t, "fault", e, api.ErrIO)
					steps(t, "fault", d, step)
					if kind == api.FaultLie && step < 4 {
						want = left[step+1]
					}
				}
				names(t, "what is left", d, want...)
				plan(d)
				is(t, "once more", save.Tidy(d), api.OK)
				names(t, "once more", d, "a", "c")
			}
		}
	}
	d := newDisk(t, 99)
	d.Crash(api.Cut{})
	is(t, "down, and nothing there", save.Tidy(d), api.ErrDown)
}
