package save_test

import (
	"slices"
	"strings"
	"testing"

	"copyist/api"
	"copyist/save"
)

// TestSaveSteps, P1703: as the disk is seen, and as it would last, ahead of each of the steps: so they are told, in their order.
func TestSaveSteps(t *testing.T) {
	old, one, two := mark8+"old", letters(1021), "rest"
	lasts := []string{"a", old}
	for step, row := range []struct{ seen, lasts []string }{
		{},                                    // steps are counted from 1
		{[]string{"a", old}, lasts},           // Stamp
		{[]string{"a", old}, lasts},           // Make
		{[]string{"a", old, "a~", ""}, lasts}, // Append
		{[]string{"a", old, "a~", mark8 + one}, lasts},                       // Append
		{[]string{"a", old, "a~", mark8 + one + two}, lasts},                 // Sync
		{[]string{"a", old, "a~", mark8 + one + two}, lasts},                 // Stamp
		{[]string{"a", old, "a~", mark8 + one + two}, lasts},                 // Rename
		{[]string{"a", mark8 + one + two}, lasts},                            // SyncDir
		{[]string{"a", mark8 + one + two}, []string{"a", mark8 + one + two}}, // none
	} {
		for _, keep := range []bool{true, false} {
			if step == 0 {
				continue
			}
			d := newDisk(t, 9000, "a", old)
			f := open(t, d, "a")
			cut, want := api.Cut{}, row.lasts
			if keep {
				cut, want = api.Cut{Names: 99, Bytes: []int{9999, 9999}}, row.seen
			}
			plan(d, api.Fault{Step: step, Kind: api.FaultAhead, Cut: cut})
			e := f.Save(text(t, one+two), false)
			if (e == api.OK) != (step == 9) || step < 9 && (e != api.ErrDown || d.Steps() != step) {
				t.Fatalf("step %d: %d, %d steps", step, e, d.Steps())
			}
			d.Crash(cut)
			d.Restart()
			holds(t, "ahead of a step", d, want...)
		}
	}
	// the bytes are synced ahead of the step that follows, not by it
	d := newDisk(t, 9000, "a", old)
	f := open(t, d, "a")
	plan(d, cutting(6, api.FaultAhead, 1)) // Sync is the fifth
	is(t, "Save", f.Save(text(t, one+two), false), api.ErrDown)
	d.Restart()
	holds(t, "behind Sync", d, "a", old, "a~", mark8+one+two)
	d = newDisk(t, 9000, "a", old)
	f = open(t, d, "a")
	plan(d, cutting(5, api.FaultAhead, 1, 0, 1025))
	is(t, "Save", f.Save(text(t, one+two), false), api.ErrDown)
	d.Restart()
	holds(t, "ahead of Sync", d, "a", old, "a~", mark8+one+two[:1])
}

// TestSaveChunks, P1703: how many bytes an Append has: none, one chunk, and more, the mark among them.
func TestSaveChunks(t *testing.T) {
	for _, mark := range []string{"", mark8, mark16, mark61} {
		for _, n := range []int{0, 1, 1020, 1021, 1022, 1023, 1024, 1025, 2044, 2045, 2046, 2047, 2048, 2049, 5000, 65535, 65536} {
			body := letters(n)
			all := mark + body
			chunks := (len(all) + 1023) / 1024
			d := newDisk(t, 200000, "a", mark)
			f := open(t, d, "a")
			plan(d)
			is(t, "Save", f.Save(encoded(t, api.Latin1, body), false), api.OK)
			steps(t, "Save", d, 6+chunks)
			holds(t, "Save", d, "a", all)
			knows(t, "Save", f, api.Stamp{2, len(all), chunks})
			knows(t, "Save", f, stampOf(t, d, "a"))
			for _, k := range []int{0, 1, chunks - 1} { // ahead of the k-th: k chunks are there
				if k < 0 || k >= chunks {
					continue
				}
				plan(d, cutting(3+k, api.FaultAhead, 9, 0, 99999))
				is(t, "Save", f.Save(encoded(t, api.Latin1, body), false), api.ErrDown)
				d.Restart()
				holds(t, "chunks", d, "a", all, "a~", all[:1024*k])
				is(t, "Tidy", save.Tidy(d), api.OK)
			}
		}
	}
}

// TestSaveFaults, P1703: every kind of fault at each of its steps; what is taken away, by which step, and what is known behind it.
func TestSaveFaults(t *testing.T) {
	for step := 1; step <= 7; step++ {
		for _, kind := range kinds {
			d := newDisk(t, 99, "a", mark8+"old", "b", "x")
			f := open(t, d, "a")
			was := f.Stamp()
			plan(d, api.Fault{Step: step, Kind: kind, Part: 2})
			e := f.Save(text(t, "new"), false)
			down := kind >= api.FaultAhead
			switch {
			case down:
				is(t, "down", e, api.ErrDown)
				steps(t, "down", d, step) // what is taken away then is not counted
				d.Restart()
			case step == 1 || step == 7: // nothing to be taken away
				is(t, "Stamp, SyncDir", e, api.ErrIO)
				steps(t, "Stamp, SyncDir", d, step)
			default:
				is(t, "3 to 7", e, api.ErrIO)
				steps(t, "3 to 7", d, step+1)
			}
			old, now := mark8+"old", mark8+"new"
			renamed := step == 7 && !down || step == 6 && kind == api.FaultLie || step == 7 && kind == api.FaultBehind
			if renamed {
				holds(t, "renamed", d, "a", now, "b", "x")
			} else {
				holds(t, "not renamed", d, "a", old, "b", "x")
			}
			if step == 7 {
				knows(t, "behind the rename", f, api.Stamp{3, 6, 1})
			} else {
				knows(t, "ahead of the rename", f, was)
			}
			want := api.OK
			if down && step == 7 && kind == api.FaultAhead { // the old file is back, which is not known any more
				want = api.ErrChanged
			}
			plan(d)
			is(t, "once more", f.Save(text(t, "more"), false), want)
		}
	}
}

// TestFirstMake, P1703: what is left is taken away, by the steps of that; each of the three may fail.
func TestFirstMake(t *testing.T) {
	for _, row := range []struct {
		step, kind int
		err        api.Errno
		count      int
	}{
		{0, 0, api.OK, 9},
		{2, api.FaultRefuse, api.ErrIO, 3},
		{2, api.FaultPart, api.ErrIO, 3},
		{2, api.FaultLie, api.OK, 9}, // it fails by itself: there is one
		{3, api.FaultRefuse, api.ErrIO, 4},
		{3, api.FaultLie, api.ErrIO, 4},
		{4, api.FaultRefuse, api.ErrIO, 5},
		{4, api.FaultLie, api.ErrIO, 5},
		{5, api.FaultRefuse, api.ErrIO, 6},
	} {
		d := newDisk(t, 99, "a", "old", "a~", "left", "b", "x")
		f := open(t, d, "a")
		plan(d, fault(row.step, row.kind))
		is(t, "Save", f.Save(text(t, "new"), false), row.err)
		steps(t, "Save", d, row.count)
		if row.err == api.OK {
			holds(t, "Save", d, "a", "new", "b", "x")
			continue
		}
		holds(t, "Save", d, "a", "old", "b", "x")
	}
	// what stands beside stays, where it can't be taken away
	d := newDisk(t, 99, "a", "old", "a~", "left")
	f := open(t, d, "a")
	plan(d, fault(3, api.FaultRefuse), fault(4, api.FaultRefuse))
	is(t, "Save", f.Save(text(t, "new"), false), api.ErrIO)
	steps(t, "Save", d, 4)
	holds(t, "Save", d, "a", "old", "a~", "left")
	// the second Make is of a new file: the old bytes are not written on
	plan(d)
	is(t, "Save", f.Save(text(t, "n"), false), api.OK)
	holds(t, "Save", d, "a", "n")
}

// TestFirstErrorTold, P1703: whatever the Remove answers, the first error is the answer; and it is called once.
func TestFirstErrorTold(t *testing.T) {
	for _, kind := range kinds {
		d := newDisk(t, 9, "a", "old")
		f := open(t, d, "a")
		plan(d, fault(4, kind)) // the Remove behind an Append without room
		is(t, "no room", f.Save(text(t, "longer!"), false), api.ErrSpace)
		steps(t, "no room", d, 4)
		d.Restart()
		if kind <= api.FaultPart {
			holds(t, "no room", d, "a", "old", "a~", "longer")
		} else {
			holds(t, "no room", d, "a", "old")
		}
	}
	d := newDisk(t, 9, "a", "old")
	f := open(t, d, "a")
	plan(d, fault(2, api.FaultRefuse)) // nothing is there to be removed
	is(t, "Make", f.Save(text(t, "x"), false), api.ErrIO)
	steps(t, "Make", d, 3)
	plan(d, fault(5, api.FaultLie)) // Stamp of what is beside: no stamp was tried
	is(t, "Stamp", f.Save(text(t, "x"), false), api.ErrIO)
	steps(t, "Stamp", d, 6)
	holds(t, "Stamp", d, "a", "old")
}

// TestNoRoom, P1703: for the bytes, to the last one, and for the name.
func TestNoRoom(t *testing.T) {
	for room := range 9 {
		d := newDisk(t, 3+room, "a", "old")
		f := open(t, d, "a")
		e := f.Save(text(t, "newer"), false)
		if room >= 5 {
			is(t, "room", e, api.OK)
			holds(t, "room", d, "a", "newer")
			continue
		}
		is(t, "no room", e, api.ErrSpace)
		holds(t, "no room", d, "a", "old")
	}
	d := newDisk(t, 99, "a", "old")
	for _, c := range "bcdefghijklmno" {
		putAll(t, d, string(c), "")
	}
	f := open(t, d, "a")
	is(t, "fifteen", f.Save(text(t, "x"), false), api.OK)
	putAll(t, d, "p", "")
	plan(d)
	is(t, "sixteen", f.Save(text(t, "y"), false), api.ErrSpace)
	steps(t, "sixteen", d, 3) // Stamp, Make, Remove
	if err := d.Remove("p"); err != nil {
		t.Fatal(err)
	}
	putAll(t, d, "a~", "left") // one that is ours counts too, but it gives way
	is(t, "sixteen", f.Save(text(t, "z"), false), api.OK)
}

// TestChanged, P1703: what another hand does to the file, with force and without.
func TestChanged(t *testing.T) {
	for _, row := range []struct {
		what  string
		files []string
		hand  []deed
		want  api.Errno
		count int
	}{
		{"nothing", []string{"a", "old"}, nil, api.OK, 7},
		{"the same bytes", []string{"a", "old"}, []deed{putting("a", "old")}, api.ErrChanged, 1},
		{"other bytes", []string{"a", "old"}, []deed{putting("a", "very new")}, api.ErrChanged, 1},
		{"taken away", []string{"a", "old"}, []deed{removing("a")}, api.ErrChanged, 1},
		{"another one", []string{"a", "old"}, []deed{removing("a"), putting("a", "old")}, api.ErrChanged, 1},
		{"another file", []string{"a", "old"}, []deed{putting("b", "old")}, api.OK, 7},
		{"new", nil, nil, api.OK, 7},
		{"made", nil, []deed{putting("a", "")}, api.ErrChanged, 1},
		{"made and taken away", nil, []deed{putting("a", ""), removing("a")}, api.OK, 7},
	} {
		for _, force := range []bool{false, true} {
			d := newDisk(t, 99, row.files...)
			f := open(t, d, "a")
			was := f.Stamp()
			for _, x := range row.hand {
				is(t, row.what, x.on(d), api.OK)
			}
			before := seen(t, d)
			want, count := row.want, row.count
			if force {
				want, count = api.OK, 7
			}
			plan(d)
			is(t, row.what, f.Save(text(t, "mine"), force), want)
			steps(t, row.what, d, count)
			if want != api.OK {
				holds(t, row.what, d, before...)
				knows(t, row.what, f, was)
				is(t, row.what, f.Save(text(t, "mine"), false), want) // it stays so
				is(t, row.what, f.Save(text(t, "mine"), true), api.OK)
			}
			knows(t, row.what, f, stampOf(t, d, "a"))
			is(t, row.what, f.Save(text(t, "again"), false), api.OK)
			b, _ := d.Read("a")
			if string(b) != "again" {
				t.Fatalf("%s: %q", row.what, b)
			}
		}
	}
}

// TestTried, P1703: a rename that was done and told as failed is found as its own; another hand's file is not, nor that there is none.
func TestTried(t *testing.T) {
	for _, files := range [][]string{{"a", "old"}, nil} {
		for _, row := range []struct {
			hand  []deed
			want  api.Errno
			force bool
		}{
			{nil, api.OK, false},
			{nil, api.OK, true},
			{[]deed{putting("a", "lied")}, api.ErrChanged, false},
			{[]deed{removing("a")}, api.ErrChanged, false},
		} {
			d := newDisk(t, 99, files...)
			f := open(t, d, "a")
			was := f.Stamp()
			plan(d, fault(6, api.FaultLie))
			is(t, "a lie", f.Save(text(t, "lied"), false), api.ErrIO)
			knows(t, "a lie", f, was)
			for _, x := range row.hand {
				is(t, "another hand", x.on(d), api.OK)
			}
			want := row.want
			if files == nil && slices.Equal([]string{}, seen(t, d)) {
				want = api.OK // none was known, and there is none
			}
			plan(d)
			is(t, "behind a lie", f.Save(text(t, "next"), row.force), want)
		}
	}
}

// TestTriedIsKnown, P1703: what was tried is known when it is found, though nothing comes of the rest; and only what was tried last.
func TestTriedIsKnown(t *testing.T) {
	d := newDisk(t, 99, "a", "old")
	f := open(t, d, "a")
	plan(d, fault(6, api.FaultLie))
	is(t, "a lie", f.Save(text(t, "lied"), false), api.ErrIO)
	lied := stampOf(t, d, "a")
	for _, force := range []bool{false, true} {
		plan(d, fault(2, api.FaultRefuse)) // Make: nothing is tried
		is(t, "found", f.Save(text(t, "x"), force), api.ErrIO)
		knows(t, "found", f, lied)
	}
	plan(d, fault(6, api.FaultRefuse)) // another one is tried, and is not there
	is(t, "refused", f.Save(text(t, "x"), false), api.ErrIO)
	knows(t, "refused", f, lied)
	plan(d)
	is(t, "at last", f.Save(text(t, "last"), false), api.OK)
	holds(t, "at last", d, "a", "last")

	// a Stamp that fails tells nothing
	plan(d, fault(6, api.FaultLie))
	is(t, "a lie", f.Save(text(t, "lied"), false), api.ErrIO)
	was := f.Stamp()
	for _, kind := range []int{api.FaultRefuse, api.FaultPart, api.FaultLie} {
		plan(d, fault(1, kind))
		is(t, "Stamp", f.Save(text(t, "x"), true), api.ErrIO)
		steps(t, "Stamp", d, 1)
		knows(t, "Stamp", f, was)
	}
	is(t, "at last", f.Save(text(t, "last"), false), api.OK)

	// nor has a Stamp of what is beside that fails tried anything
	lost := f.Stamp()
	plan(d, fault(5, api.FaultRefuse), fault(6, api.FaultRefuse))
	is(t, "Stamp beside", f.Save(text(t, "y"), false), api.ErrIO)
	if err := d.Rename("a~", "a"); err != nil { // another hand
		t.Fatal(err)
	}
	is(t, "not tried", f.Save(text(t, "z"), false), api.ErrChanged)
	knows(t, "not tried", f, lost)

	// where what was tried is put into its place by another hand, it is ours all the same
	is(t, "force", f.Save(text(t, "k"), true), api.OK)
	plan(d, fault(6, api.FaultRefuse), fault(7, api.FaultRefuse))
	is(t, "Rename", f.Save(text(t, "y"), false), api.ErrIO)
	if err := d.Rename("a~", "a"); err != nil {
		t.Fatal(err)
	}
	is(t, "tried", f.Save(text(t, "z"), false), api.OK)
}

// TestSaveDown, P1703, P1704, P1705: on a disk that is down nothing is a step.
func TestSaveDown(t *testing.T) {
	d := newDisk(t, 99, "a", "old")
	f := open(t, d, "a")
	was := f.Stamp()
	plan(d)
	d.Crash(api.Cut{})
	is(t, "Save", f.Save(text(t, "x"), true), api.ErrDown)
	is(t, "Copy", f.Copy("c", text(t, "x"), true), api.ErrDown)
	is(t, "Copy", f.Copy("a", text(t, "x"), true), api.ErrDown)
	is(t, "Copy", f.Copy("a~", text(t, "x"), true), api.ErrName)
	is(t, "As", f.As("c"), api.ErrDown)
	is(t, "As", f.As("/"), api.ErrName)
	steps(t, "down", d, 0)
	knows(t, "down", f, was)
	d.Restart()
	is(t, "up", f.Save(text(t, "x"), false), api.OK)
	holds(t, "up", d, "a", "x")
}

// TestOtherEncodings, P1703: the bytes of a text, whatever it is encoded in; the mark is the file's.
func TestOtherEncodings(t *testing.T) {
	d := newDisk(t, 9000, "a", mark8)
	f := open(t, d, "a")
	for enc := api.UTF8; enc <= api.Latin1; enc++ {
		body := "h\x00\xFE\xFF\xC3\x28" + strings.Repeat("\xD8\x00", 700) + "\x0D"
		x := encoded(t, enc, body)
		is(t, "Save", f.Save(x, false), api.OK)
		holds(t, "Save", d, "a", mark8+body)
		if e := x.Change([]api.Edit{{From: 0, To: 1, Put: []int{'e', 'f'}}}); e != api.OK {
			t.Fatal(e)
		}
		is(t, "Save", f.Save(x, false), api.OK)
		holds(t, "Save", d, "a", mark8+string(x.Bytes()))
	}
}
