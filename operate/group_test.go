package operate_test

import (
	"slices"
	"testing"

	"copyist/api"
)

// all are calls that each change the text "ab\n  cd\n\nef" with the registers of busy, each in its way.
func all() []act {
	return []act{
		remove(0, chars(1, 4)), remove(0, rows(4, 5)), remove('x', rows(9, 10)),
		change(0, chars(0, 2)), change('_', rows(1, 7)),
		put('c', false, 1), put('c', true, 3), put('l', false, 2), put('l', true, 1),
		turn(api.VUpper, chars(0, 7)), turn(api.VFlip, rows(0, 10)),
		shift(rows(0, 10), 2), shift(chars(4, 5), -1),
		join(0, 3, false), join(1, 2, true),
		typing('x', 10, 'y'), over(2, 'z'), over(1, 10),
	}
}

func busy(t *testing.T) *pair {
	t.Helper()
	return load(t, "ab\n  cd\n\nef").bank('c', byChars("ch")).bank('l', byLines(" li\n")).marked()
}

// TestOneGroup, P1202: a call makes one group; undo gives atoms, tags and the cursor ahead of it back.
func TestOneGroup(t *testing.T) {
	for _, a := range all() {
		for _, at := range []int{-3, 0} {
			x := busy(t).at(at)
			x.does(a, api.OK).depth(1, 0)
			behind := lookAt(x.d)
			if behind.Open || !behind.Dirty {
				t.Fatalf("%s: open %v, dirty %v", a.name, behind.Open, behind.Dirty)
			}
			if back, err := x.d.Book.Undo(); back != 0 || err != api.OK {
				t.Fatalf("%s: undone: %d, %d", a.name, back, err)
			}
			if s := lookAt(x.d); show(s.Atoms) != "ab\n  cd\n\nef" || !slices.Equal(s.Tags, []int{0, 1, 2, 3, 4, 5, 6, 7, 8, 9, 10}) || s.Dirty {
				t.Fatalf("%s: undone: %+v", a.name, s)
			}
			if at, err := x.d.Book.Redo(); at != behind.At || err != api.OK {
				t.Fatalf("%s: done again: %d, %d; want %d", a.name, at, err, behind.At)
			}
			if s := lookAt(x.d); !slices.Equal(s.Atoms, behind.Atoms) || !slices.Equal(s.Tags, behind.Tags) {
				t.Fatalf("%s: done again: %+v", a.name, s)
			}
		}
	}
}

// TestBeginsAt, P1202: a group begins where the cursor is clamped to; that of Type at its own place.
func TestBeginsAt(t *testing.T) {
	for at, want := range map[int]int{-1: 0, 1: 0, 2: 2, 3: 2, 4: 2, 5: 5, 6: 5, 99: 5} {
		x := load(t, "e\u0301x\r\n\r").at(at).does(remove(0, chars(0, 1)), api.OK)
		if got, _ := x.d.Book.Undo(); got != want {
			t.Fatalf("At %d: the group began at %d, want %d", at, got, want)
		}
	}
	for at, want := range map[int]int{-1: 0, 1: 1, 3: 3, 4: 4, 6: 6, 99: 6} {
		x := load(t, "e\u0301x\r\n\r").at(at).does(typing('y'), api.OK)
		if got, _ := x.d.Book.Undo(); got != want {
			t.Fatalf("At %d: Type's group began at %d, want %d", at, got, want)
		}
		if got, _ := x.d.Book.Redo(); got != want+1 {
			t.Fatalf("At %d: Type's group ended at %d, want %d", at, got, want+1)
		}
	}
}

// TestOpenGroup, P1202: in an open group a call works, opens none and shuts none; refused, it leaves it as it was.
func TestOpenGroup(t *testing.T) {
	for _, a := range all() {
		x := busy(t).at(-1).begin(3)
		x.does(a, api.OK).depth(0, 0)
		for _, bad := range []act{typing(-66), over(1, 1<<40), put('z', true, 1), put('c', true, 9999), remove(63, chars(0, 1)), shift(rows(0, 6), 9999), turn(9, rows(0, 1)), join(0, 99, true)} {
			if x.try(bad) == api.OK || !x.d.Book.IsOpen() {
				t.Fatalf("%s, then %s: the group is shut", a.name, bad.name)
			}
		}
		x.does(typing('q'), api.OK).does(typing(), api.OK).does(yank('y', rows(0, 1)), api.OK)
		x.end(0)
		x.depth(1, 0)
		if at, _ := x.d.Book.Undo(); at != 3 || show(lookAt(x.d).Atoms) != "ab\n  cd\n\nef" {
			t.Fatalf("%s: undone to %d, %+v", a.name, at, lookAt(x.d))
		}
	}
	x := busy(t).at(-1).begin(3)
	for _, a := range all() {
		x.try(a)
	}
	x.d.Book.Drop()
	x.p.book.Drop()
	x.same("Drop")
}

// idle are calls that change nothing, and are not refused.
func idle() []act {
	return []act{
		change(63, chars(2, 2)), change('c', rows(3, 3)), turn(api.VUpper, chars(0, 1)), turn(api.VUpper, rows(2, 4)),
		shift(rows(3, 3), 5), shift(rows(0, 4), -5), typing(), yank(0, chars(0, 2)), yank(0, rows(0, 4)),
	}
}

// TestNoGroup, P1202: a call that changes nothing keeps no group, and what can be done again stays.
func TestNoGroup(t *testing.T) {
	start := func() *pair {
		x := load(t, "A1\n\n2").marked().does(typing('x'), api.OK)
		x.undo()
		return x
	}
	for _, a := range idle() {
		x := start()
		x.does(a, api.OK).depth(0, 1)
		if s := lookAt(x.d); s.Dirty || s.Open || slices.Contains(s.Tags, -1) {
			t.Fatalf("%s: %+v", a.name, s)
		}
	}
	for _, a := range idle() {
		x := start().begin(2)
		x.does(a, api.OK)
		if s := lookAt(x.d); s.Dirty || !s.Open {
			t.Fatalf("%s: %+v", a.name, s)
		}
		x.end(0)
		x.depth(0, 1)
	}
}

// TestManyGroups: as many undos as calls give all back, however many there were.
func TestManyGroups(t *testing.T) {
	x := busy(t)
	for _, a := range all() {
		x.try(a)
	}
	undo, _ := x.d.Book.Depth()
	for range undo {
		x.undo()
	}
	x.tags(0, 1, 2, 3, 4, 5, 6, 7, 8, 9, 10)
	if show(lookAt(x.d).Atoms) != "ab\n  cd\n\nef" || x.d.Book.Dirty() {
		t.Fatalf("%+v", lookAt(x.d))
	}
}

// TestMarks, P1202: marks and watched offsets go by just the edits that are named.
func TestMarks(t *testing.T) {
	for _, c := range []struct {
		text    string
		a       act
		watched []int
	}{
		{"ab", turn(api.VUpper, chars(0, 2)), []int{-1, -1, 2}},
		{"aB", turn(api.VUpper, chars(0, 2)), []int{-1, 1, 2}},
		{"ab\ncd", shift(rows(0, 5), 1), []int{1, 2, 3, 5, 6, 7}},
		{"  a\n b", shift(rows(0, 6), -1), []int{-1, -1, 0, 1, -1, 2, 3}},
		{"a\n b\nc", join(0, 2, false), []int{0, -1, -1, 2, -1, 4, 5}},
		{"a\nb\nc", join(0, 2, true), []int{0, -1, 1, -1, 2, 3}},
		{"e\u0301xy", over(2, 'z'), []int{-1, -1, -1, 2, 3}},
		{"abc", over(2, 10), []int{-1, -1, 1, 2}},
		{"a\nb", remove(0, rows(2, 3)), []int{0, -1, -1, 1}},
		{"a\nb\nc", remove(0, rows(2, 3)), []int{0, 1, -1, -1, 2, 3}},
		{"a\nb\nc", change(0, rows(2, 3)), []int{0, 1, -1, 2, 3, 4}},
		{"ab", typing('x'), []int{1, 2, 3}},
	} {
		x := load(t, c.text).marked().does(c.a, api.OK)
		if got := x.d.Book.Watched(); !slices.Equal(got, c.watched) {
			t.Errorf("%q, %s: watched offsets go to %v, want %v", c.text, c.a.name, got, c.watched)
		}
	}
	x := load(t, "abcd").marked().does(over(3, 'z'), api.OK) // one edit for each: a mark stays on its own cluster
	for i := range 4 {
		if at, _ := x.d.Book.Mark('a' + i); at != i {
			t.Errorf("the mark %d went to %d", i, at)
		}
	}
}
