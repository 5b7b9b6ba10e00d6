package history_test

import (
	"math"
	"slices"
	"testing"

	"copyist/api"
	"copyist/history"
)

// P701: each error, and the order of the errors: the depth's is told first.
func TestOpenErrors(t *testing.T) {
	three := []byte("abc")
	for i, c := range []struct {
		enc          int
		b            []byte
		limit, depth int
		want         api.Errno
	}{
		{api.UTF8, three, 3, 0, api.ErrArg},
		{api.UTF8, three, 3, -1, api.ErrArg},
		{api.UTF8, three, 3, 201, api.ErrArg},
		{api.UTF8, three, 3, math.MinInt, api.ErrArg},
		{api.UTF8, three, 3, math.MaxInt, api.ErrArg},
		{9, three, 2, 0, api.ErrArg},
		{9, three, -1, 201, api.ErrArg},
		{9, three, -1, 1, api.ErrEnc},
		{api.Auto, three, 3, 200, api.ErrEnc},
		{-1, three, 2, 1, api.ErrEnc},
		{5, nil, 0, 1, api.ErrEnc},
		{api.Latin1, three, -1, 1, api.ErrArg},
		{api.Latin1, three, 65537, 1, api.ErrArg},
		{api.UTF16BE, three, 2, 200, api.ErrFull},
		{api.UTF16LE, make([]byte, 65537), 65536, 1, api.ErrFull},
		{api.UTF8, nil, 0, 1, api.OK},
		{api.UTF8, three, 3, 200, api.OK},
		{api.UTF16LE, three, 3, 1, api.OK},
		{api.UTF16BE, make([]byte, 65536), 65536, 2, api.OK},
		{api.Latin1, []byte{}, 65536, 199, api.OK},
	} {
		b, e := history.Open(c.enc, c.b, c.limit, c.depth)
		if e != c.want || (b == nil) != (e != api.OK) {
			t.Errorf("case %d: %v, %d; want %d", i, b != nil, e, c.want)
		}
	}
}

// P701: a new Book has no past, no marks, nothing to watch, and is not dirty.
func TestOpenIsFresh(t *testing.T) {
	loaded := []byte{0xEF, 0xBB, 0xBF, 'a', 0xC3, 0x28, 13, 10, 0, 0xD8, 0xFF, 0xE2, 0x82}
	for _, enc := range encodings {
		for n := range len(loaded) + 1 {
			p := open(t, enc, loaded[:n], len(loaded), 1)
			if !slices.Equal(p.text.Bytes(), loaded[:n]) || len(p.b.Marks()) != 0 || len(p.b.Watched()) != 0 || p.b.IsOpen() {
				t.Fatalf("encoding %d, %d bytes: %x", enc, n, p.text.Bytes())
			}
			p.depth(0, 0, false)
			_, e := p.undo()
			is(t, "Undo", e, api.ErrOldest)
			_, e = p.redo()
			is(t, "Redo", e, api.ErrNewest)
			_, e = p.drop()
			is(t, "Drop", e, api.ErrShut)
		}
	}
}

// P701: the limit is the text's.
func TestOpenLimit(t *testing.T) {
	p := open(t, api.UTF8, []byte("abc"), 5, 3)
	p.begin(0)
	is(t, "Change", p.change(put(3, 3, "de")), api.OK)
	is(t, "Change", p.change(put(0, 0, "x")), api.ErrFull)
	is(t, "Change", p.change(put(0, 1, ""), put(5, 5, "x")), api.OK)
	is(t, "End", p.end(5), api.OK)
}

// P702: a Text that was asked for long before tells the text of now (pair holds it against the model behind each call).
func TestTextIsAlwaysTheSame(t *testing.T) {
	p := load(t, api.UTF8, "one two", 5)
	old := p.b.Text()
	p.group(put(0, 3, "1"))
	p.told("1 two", -1, 3, 4, 5, 6)
	p.undo()
	if old != p.b.Text() || old.Len() != 7 || old.Tags(0, 1)[0] != 0 {
		t.Errorf("behind an undo: %v", old.Atoms(0, 9))
	}
	p.redo()
	p.begin(0)
	p.change(put(0, 5, ""))
	if old.Len() != 0 {
		t.Errorf("in a group: %v", old.Atoms(0, 9))
	}
	p.drop()
	if old.Len() != 5 || old != p.b.Text() {
		t.Errorf("behind a drop: %v", old.Atoms(0, 9))
	}
}

// P703: offsets at both ends and just outside, in a shut Book and in an open one.
func TestBeginAndEndErrors(t *testing.T) {
	for _, enc := range encodings {
		for _, s := range []string{"", "abc"} {
			n := len(s)
			p := load(t, enc, s, 3)
			for _, at := range []int{math.MinInt, -1, n + 1, n + 2, math.MaxInt} {
				is(t, "End", p.end(at), api.ErrShut)
				is(t, "Begin", p.begin(at), api.ErrRange)
			}
			for _, at := range []int{0, n, n / 2} {
				is(t, "End", p.end(at), api.ErrShut)
				is(t, "Begin", p.begin(at), api.OK)
				for _, wrong := range []int{math.MinInt, -1, n + 1, math.MaxInt, at} {
					is(t, "Begin", p.begin(wrong), api.ErrOpen)
				}
				for _, wrong := range []int{math.MinInt, -1, n + 1, math.MaxInt} {
					is(t, "End", p.end(wrong), api.ErrRange)
					if !p.b.IsOpen() {
						t.Fatal("an End that is refused has shut the group")
					}
				}
				is(t, "End", p.end(n), api.OK)
				if p.b.IsOpen() {
					t.Fatal("End has left the group open")
				}
			}
		}
	}
}

// P703: End asks for the Len behind the group's changes, not the one at its Begin.
func TestEndGoesByTheTextOfNow(t *testing.T) {
	p := load(t, api.UTF8, "abc", 3)
	p.begin(3)
	p.change(put(0, 2, ""))
	is(t, "End", p.end(3), api.ErrRange)
	is(t, "End", p.end(2), api.ErrRange)
	is(t, "End", p.end(1), api.OK)
	p.begin(1)
	p.change(put(0, 0, "xyz"))
	is(t, "End", p.end(5), api.ErrRange)
	is(t, "End", p.end(4), api.OK)
	at, e := p.undo()
	answers(t, "Undo", at, e, 1)
	at, e = p.undo()
	answers(t, "Undo", at, e, 3)
	at, e = p.redo()
	answers(t, "Redo", at, e, 1)
	at, e = p.redo()
	answers(t, "Redo", at, e, 4)
}

// P704: ErrShut goes ahead of all that piece refuses; what is refused changes nothing, and the group goes on.
func TestChangeErrors(t *testing.T) {
	long := make([]api.Edit, api.MaxEdits+1)
	bad := []struct {
		edits []api.Edit
		want  api.Errno
	}{
		{long, api.ErrLong},
		{[]api.Edit{put(-1, 0, "")}, api.ErrRange},
		{[]api.Edit{put(0, 4, "")}, api.ErrRange},
		{[]api.Edit{put(2, 1, "x")}, api.ErrRange},
		{[]api.Edit{put(math.MinInt, math.MaxInt, "")}, api.ErrRange},
		{[]api.Edit{put(1, 2, "x"), put(1, 1, "y")}, api.ErrRange},
		{[]api.Edit{{From: 4, To: 4, Put: []int{-1}}}, api.ErrRange},
		{[]api.Edit{put(0, 1, "x"), {From: 2, To: 2, Put: []int{math.MaxInt}}}, api.ErrFit},
		{[]api.Edit{{Put: []int{-2}}}, api.ErrFit},
		{[]api.Edit{{Put: []int{'a', 'a', 'a', 'a', -257}}}, api.ErrFit},
		{[]api.Edit{put(0, 1, "x"), put(1, 1, "xyz")}, api.ErrFull},
	}
	p := open(t, api.UTF8, []byte("abc"), 5, 3)
	p.mark('a', 1)
	p.watch(0, 2)
	for _, c := range bad {
		is(t, "Change", p.change(c.edits...), api.ErrShut)
	}
	is(t, "Change", p.change(), api.ErrShut)
	p.begin(2)
	for _, c := range bad {
		is(t, "Change", p.change(c.edits...), c.want)
		p.depth(0, 0, false)
	}
	is(t, "End", p.end(0), api.OK)
	p.depth(0, 0, false)
	p.begin(2)
	p.change(put(0, 0, "x"))
	for _, c := range bad[1:2] {
		is(t, "Change", p.change(c.edits...), c.want)
	}
	is(t, "Change", p.change(put(4, 4, "y")), api.OK)
	is(t, "End", p.end(5), api.OK)
	p.told("xabcy", -1, 0, 1, 2, -1)
	p.depth(1, 0, true)
	p.undo()
	p.told("abc", 0, 1, 2)
}

// P704, P705: groups without a change: no Change, no edits, empty edits alone, refused ones; redos stay.
func TestGroupsWithoutAChange(t *testing.T) {
	empties := [][]api.Edit{nil, {}, {put(0, 0, "")}, {put(0, 0, ""), put(1, 1, ""), put(1, 1, ""), {From: 3, To: 3, Put: []int{}}}, make([]api.Edit, api.MaxEdits)}
	for _, enc := range encodings {
		p := load(t, enc, "abcd", 3)
		p.group(put(0, 1, ""))
		p.group(put(0, 0, "zz"))
		p.undo()
		p.mark('a', 2)
		p.watch(1, 1, 3)
		p.saved()
		for _, edits := range empties {
			p.begin(1)
			p.end(3)
			p.begin(3)
			is(t, "Change", p.change(edits...), api.OK)
			p.depth(1, 1, false)
			is(t, "Change", p.change(edits...), api.OK)
			is(t, "End", p.end(0), api.OK)
			p.depth(1, 1, false)
			p.begin(2)
			p.change(edits...)
			at, e := p.drop()
			answers(t, "Drop", at, e, 2)
			p.depth(1, 1, false)
		}
		p.marks('a', 2)
		p.watched(1, 1, 3)
		p.begin(0)
		p.mark('b', 3) // set in a group without a change: it stays
		p.watch(2)
		p.end(0)
		p.marks('a', 2, 'b', 3)
		p.watched(2)
		at, e := p.redo()
		answers(t, "Redo", at, e, 5)
	}
}

// P704: an edit that gives an atom its own kind again is not empty; nor is one among empty ones.
func TestWhatIsAChange(t *testing.T) {
	for i, edits := range [][]api.Edit{
		{put(0, 1, "a")},
		{put(0, 1, "")},
		{put(3, 3, "x")},
		{put(0, 0, ""), put(1, 2, "b"), put(3, 3, "")},
		{put(0, 0, ""), put(3, 3, ""), put(3, 3, "y")},
		{put(0, 1, ""), put(1, 1, ""), put(1, 1, "")},
	} {
		p := load(t, api.Latin1, "abc", 2)
		p.begin(0)
		p.change(put(2, 2, ""))
		p.depth(0, 0, false)
		p.change(edits...)
		p.depth(0, 0, true)
		p.change(put(1, 1, "")) // an empty one behind it takes nothing back
		p.depth(0, 0, true)
		p.end(0)
		if n, _ := p.b.Depth(); n != 1 || !p.b.Dirty() {
			t.Errorf("case %d is not taken for a change", i)
		}
		p.undo()
		p.depth(0, 1, false)
		p.told("abc", 0, 1, 2)
	}
}

// P705: what comes to nothing in the end is a change too.
func TestAGroupThatComesToNothing(t *testing.T) {
	p := load(t, api.UTF8, "abc", 2)
	p.begin(0)
	p.change(put(1, 1, "x"))
	p.change(put(1, 2, ""))
	p.end(0)
	p.told("abc", 0, 1, 2)
	p.depth(1, 0, true)
	p.undo()
	p.depth(0, 1, false)
	p.redo()
	p.depth(1, 0, true)
}

// P705: depths of 1 and of 200, and those between: the first groups are forgotten, no others.
func TestDepths(t *testing.T) {
	for _, depth := range []int{1, 2, 3, 199, 200} {
		p := load(t, api.UTF8, "", depth)
		for i := range depth + 3 {
			p.begin(i)
			p.change(put(i, i, string(rune('a'+i%26))))
			p.end(i + 1)
			p.depth(min(i+1, depth), 0, true)
		}
		for i := range depth {
			at, e := p.undo()
			answers(t, "Undo", at, e, depth+2-i)
			p.depth(depth-1-i, i+1, true)
		}
		_, e := p.undo()
		is(t, "Undo", e, api.ErrOldest)
		p.told("abc", -1, -1, -1)
		for i := range depth {
			at, e := p.redo()
			answers(t, "Redo", at, e, 4+i)
		}
		_, e = p.redo()
		is(t, "Redo", e, api.ErrNewest)
		p.depth(depth, 0, true)
	}
}

// P705: a new group behind an undo: what could be done again is forgotten, and the depth is counted anew.
func TestANewGroupBehindAnUndo(t *testing.T) {
	p := load(t, api.UTF8, "ab", 3)
	for range 3 {
		p.group(put(0, 0, "x"))
	}
	p.undo()
	p.undo()
	p.depth(1, 2, true)
	p.begin(1)
	p.depth(1, 2, true)
	p.change(put(0, 0, "y")) // still open: both numbers are as they were
	p.depth(1, 2, true)
	p.end(0)
	p.depth(2, 0, true)
	_, e := p.redo()
	is(t, "Redo", e, api.ErrNewest)
	p.group(put(0, 0, "z"))
	p.depth(3, 0, true)
	p.group(put(0, 0, "w"))
	p.depth(3, 0, true)
	for range 3 {
		p.undo()
	}
	p.told("xab", -1, 0, 1)
	_, e = p.undo()
	is(t, "Undo", e, api.ErrOldest)
	p.depth(0, 3, true)
	p.group(put(1, 3, ""))
	p.depth(1, 0, true)
	p.undo()
	p.told("xab", -1, 0, 1)
}

// P706: Drop behind several Changes gives everything back that was there at Begin.
func TestDrop(t *testing.T) {
	for _, enc := range encodings {
		p := load(t, enc, "abcdef", 4)
		p.group(put(1, 2, "XY"))
		p.group(put(0, 0, "-"))
		p.undo()
		p.saved()
		p.mark('a', 2)
		p.mark('q', 0)
		p.watch(0, 3, 3, 7)
		p.begin(5)
		p.change(put(2, 4, ""), put(6, 6, "z"))
		p.mark('a', 0)
		p.mark('<', 1)
		p.change(put(0, 1, "kkk"))
		p.watch(4, 5)
		p.mark('z', 7)
		p.change(put(0, p.text.Len(), ""))
		p.saved()
		p.depth(1, 1, true)
		p.marks('<', 0, 'a', 0, 'q', 0, 'z', 0)
		at, e := p.drop()
		answers(t, "Drop", at, e, 5)
		p.depth(1, 1, false)
		p.marks('a', 2, 'q', 0)
		p.watched(0, 3, 3, 7)
		_, e = p.drop()
		is(t, "Drop", e, api.ErrShut)
		is(t, "Change", p.change(put(0, 0, "x")), api.ErrShut)
		at, e = p.redo() // what could be done again still can
		answers(t, "Redo", at, e, 8)
		p.undo()
		p.undo()
		p.depth(0, 2, true)
	}
}

// P706: gone watched offsets come back by Drop, and by nothing else.
func TestDropBringsWatchedBack(t *testing.T) {
	p := load(t, api.UTF8, "abc", 4)
	p.watch(0, 1, 2, 3)
	p.group(put(1, 2, ""))
	p.watched(0, -1, 1, 2)
	p.begin(0)
	p.change(put(0, 2, "x"))
	p.watched(-1, -1, -1, 1)
	p.drop()
	p.watched(0, -1, 1, 2)
	p.undo()
	p.watched(0, -1, 2, 3)
}

// P706: a dropped group is no state: neither is its number seen, nor can it be undone.
func TestDropLeavesNoState(t *testing.T) {
	p := load(t, api.UTF8, "abc", 2)
	p.begin(1)
	p.change(put(0, 1, ""))
	p.drop()
	p.depth(0, 0, false)
	p.group(put(0, 1, ""))
	p.saved()
	p.begin(1)
	p.change(put(0, 1, ""))
	p.drop()
	p.depth(1, 0, false)
	at, e := p.undo()
	answers(t, "Undo", at, e, 0)
	p.depth(0, 1, true)
}

// P707: to both ends and back, in turns; answers are the cursors of Begin and End.
func TestUndoAndRedoInTurns(t *testing.T) {
	for _, enc := range encodings {
		p := load(t, enc, "abcdef", 10)
		for i := range 6 {
			p.begin(i % 3)
			p.change(put(i, i+1, ""), put(6, 6, "x"))
			p.change(put(0, 0, "y"))
			p.change(put(0, 1, ""))
			p.end(6 - i)
		}
		for range 3 {
			for i := 5; i >= 0; i-- {
				at, e := p.undo()
				answers(t, "Undo", at, e, i%3)
			}
			_, e := p.undo()
			is(t, "Undo", e, api.ErrOldest)
			for i := range 6 {
				at, e := p.redo()
				answers(t, "Redo", at, e, 6-i)
			}
			_, e = p.redo()
			is(t, "Redo", e, api.ErrNewest)
		}
		for i := 5; i >= 1; i-- {
			p.undo()
			at, e := p.redo()
			answers(t, "Redo", at, e, 6-i)
			p.undo()
		}
	}
}

// P707: ErrOpen goes ahead of ErrOldest and ErrNewest.
func TestUndoWhileAGroupIsOpen(t *testing.T) {
	p := load(t, api.UTF8, "ab", 2)
	for range 2 {
		p.begin(0)
		at, e := p.undo()
		if at != 0 || e != api.ErrOpen {
			t.Fatalf("Undo: %d, %d", at, e)
		}
		at, e = p.redo()
		if at != 0 || e != api.ErrOpen {
			t.Fatalf("Redo: %d, %d", at, e)
		}
		p.change(put(1, 1, "x"))
		_, e = p.undo()
		is(t, "Undo", e, api.ErrOpen)
		_, e = p.redo()
		is(t, "Redo", e, api.ErrOpen)
		p.end(2)
	}
	p.undo()
	p.begin(0)
	_, e := p.redo()
	is(t, "Redo", e, api.ErrOpen)
	p.drop()
	at, e := p.redo()
	answers(t, "Redo", at, e, 2)
}

// P707: the loaded bytes and their tags are there again, whatever was done, raw bytes and lone units too.
func TestUndoGivesTagsBack(t *testing.T) {
	loaded := []byte{'a', 0xC3, 0x28, 13, 10, 0x00, 0xD8, 0xFF, 0xE2, 0x82, 0xAC, 0xD8, 0x00, 'z', 10}
	for _, enc := range encodings {
		p := open(t, enc, loaded, 100, 9)
		n := p.text.Len()
		tags := p.text.Tags(0, n)
		p.group(put(0, n, ""))
		p.group(put(0, 0, "abc"))
		p.group(put(1, 2, "b"))
		for range 3 {
			p.undo()
		}
		if !slices.Equal(p.text.Bytes(), loaded) || !slices.Equal(p.text.Tags(0, n), tags) {
			t.Errorf("encoding %d: %x, %v", enc, p.text.Bytes(), p.text.Tags(0, n))
		}
	}
}
