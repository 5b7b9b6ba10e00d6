package operate_test

import (
	"slices"
	"testing"

	"copyist/api"
	"copyist/operate"
)

// TestHandedIn, P1203: typed text is neither changed nor kept, its spare room neither; nor are the bytes of New.
func TestHandedIn(t *testing.T) {
	for _, native := range natives {
		d, _ := operate.New(api.UTF8, []byte("a\nb"), 100, api.LF, 9)
		d.Set.Native = native
		d.At = 1
		room := []int{'x', 10, 'y', 10, 77, 78, 79}
		typed := room[:4]
		if d.Type(typed) != api.OK || !slices.Equal(room, []int{'x', 10, 'y', 10, 77, 78, 79}) {
			t.Fatalf("what was typed is changed: %v", room)
		}
		was := lookAt(d)
		for i := range room {
			room[i] = 'q'
		}
		if !lookAt(d).equal(was) {
			t.Fatal("what was typed is kept")
		}
		d.Book.Undo()
		d.Book.Redo()
		if !slices.Equal(lookAt(d).Atoms, was.Atoms) {
			t.Fatal("what was typed is kept for Redo")
		}
	}
	b := append(make([]byte, 0, 10), "ab"...)
	d, _ := operate.New(api.UTF8, b, 100, api.LF, 9)
	copy(b[:cap(b)], "xxxxxxxxxx")
	if show(lookAt(d).Atoms) != "ab" {
		t.Fatal("the bytes are kept")
	}
	d.Type([]int{'q'})
	d.Delete(0, chars(0, 2))
	if string(b[:cap(b)]) != "xxxxxxxxxx" {
		t.Fatal("the bytes are changed")
	}
}

// TestFieldsStay, P1203: Find and Sub are the very lists that were set, untouched by any call.
func TestFieldsStay(t *testing.T) {
	for _, a := range all() {
		x := busy(t)
		find, pat, rep := []int{1, 2, 9}, []int{3, 9}, []int{4, 9}
		x.d.Find, x.d.Sub.Pat, x.d.Sub.Rep = find[:2], pat[:1], rep[:1]
		x.does(a, api.OK)
		if &x.d.Find[0] != &find[0] || &x.d.Sub.Pat[0] != &pat[0] || &x.d.Sub.Rep[0] != &rep[0] || find[2] != 9 || pat[1] != 9 || rep[1] != 9 {
			t.Fatalf("%s: Find or Sub has changed", a.name)
		}
	}
}

// TestApart: two desks have nothing in common.
func TestApart(t *testing.T) {
	x, y := busy(t), busy(t)
	was := lookAt(y.d)
	for _, a := range all() {
		x.try(a)
		if !lookAt(y.d).equal(was) {
			t.Fatalf("%s: another desk has changed", a.name)
		}
	}
}

// TestTakenApart: what a register holds is its own, whatever is done to the text later.
func TestTakenApart(t *testing.T) {
	x := load(t, "abc\nd")
	x.does(yank('a', chars(0, 3)), api.OK).does(yank('b', rows(0, 5)), api.OK)
	x.does(turn(api.VUpper, rows(0, 5)), api.OK).does(remove('_', rows(0, 0)), api.OK)
	x.holds('a', byChars("abc"))
	x.holds('b', byLines("abc\nd\n"))
}

// TestNew, P1204.
func TestNew(t *testing.T) {
	for _, c := range []struct {
		enc, limit, native, depth int
		want                      api.Errno
	}{
		{9, -1, 0, 0, api.ErrArg}, {api.UTF8, 10, 4, 5, api.ErrArg}, {api.UTF8, 10, -1, 5, api.ErrArg}, {api.UTF8, 10, 1 + 1<<32, 5, api.ErrArg},
		{9, 10, api.LF, 0, api.ErrArg}, {9, 10, api.LF, api.MaxUndo + 1, api.ErrArg}, {0, 10, api.LF, 5, api.ErrEnc}, {9, -1, api.CR, 5, api.ErrEnc},
		{api.UTF8, -1, api.LF, 5, api.ErrArg}, {api.UTF8, api.MaxBytes + 1, api.LF, 5, api.ErrArg}, {api.UTF8, 1, api.LF, 5, api.ErrFull},
		{api.UTF8, 2, api.LF, 1, api.OK}, {api.Latin1, api.MaxBytes, api.CRLF, api.MaxUndo, api.OK},
	} {
		d, err := operate.New(c.enc, []byte("ab"), c.limit, c.native, c.depth)
		if err != c.want || (d == nil) != (err != api.OK) {
			t.Errorf("New(%d, %d, %d, %d): %v, %d; want %d", c.enc, c.limit, c.native, c.depth, d, err, c.want)
		}
	}
	for _, native := range natives {
		for text, want := range map[string]int{"": native, "ab": native, "a\nb\r\n": api.LF, "a\r\nb\n": api.CRLF, "\r\n": api.CRLF, "a\rb\n": api.CR, "\r": api.CR} {
			d, err := operate.New(api.UTF8, []byte(text), 100, native, 5)
			if err != api.OK || d.Set != (api.Settings{Native: want}) || d.At != 0 || len(d.Find)+len(d.Sub.Pat)+len(d.Sub.Rep)+d.Sub.Flags != 0 {
				t.Errorf("New of %q, native %d: %+v, %d", text, native, d, err)
			}
			if s := lookAt(d); show(s.Atoms) != text || s.Undo+s.Redo != 0 || s.Open || s.Dirty || len(s.Regs) != 0 || len(s.Marks) != 0 || d.Book.Text().Enc() != api.UTF8 {
				t.Errorf("New of %q: %+v", text, s)
			}
		}
	}
	d, _ := operate.New(api.UTF8, []byte("a"), 100, api.LF, 2)
	for range 3 {
		d.Type([]int{'x'})
	}
	if undo, _ := d.Book.Depth(); undo != 2 {
		t.Errorf("depth 2, and %d groups can be undone", undo)
	}
}
