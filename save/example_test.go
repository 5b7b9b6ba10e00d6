package save_test

import (
	"reflect"
	"strings"
	"testing"

	"copyist/api"
	"copyist/save"
)

// TestExamples: the chapter's table, row by row.
func TestExamples(t *testing.T) {
	x31 := strings.Repeat("x", 31)
	for name, want := range map[string]bool{"a": true, "a~": false, "": false, x31: true, x31 + "x": false} {
		if save.Name(name) != want {
			t.Fatalf("Name(%q) = %v", name, !want)
		}
	}
	d := newDisk(t, 1000, "a", mark8+"hi", "b", "x")
	for _, row := range []struct {
		name       string
		enc, limit int
		want       api.Loaded
		err        api.Errno
	}{
		{"a", api.Latin1, 5, api.Loaded{Enc: 4, Data: []byte(mark8 + "hi")}, api.OK},
		{"a", api.Latin1, 4, api.Loaded{}, api.ErrFull},
		{"q", api.Auto, 0, api.Loaded{Enc: 1, New: true}, api.OK},
		{"a/", 7, -1, api.Loaded{}, api.ErrName},
		{"a", 7, -1, api.Loaded{}, api.ErrEnc},
	} {
		f, l, e := save.Open(d, row.name, row.enc, row.limit)
		if (f == nil) != (row.err != api.OK) || !reflect.DeepEqual(l, row.want) || e != row.err {
			t.Fatalf("Open(%q, %d, %d) = %+v, %d", row.name, row.enc, row.limit, l, e)
		}
	}
	plan(d)
	f, l, e := save.Open(d, "a", api.Auto, 9)
	if e != api.OK || !reflect.DeepEqual(l, api.Loaded{Enc: 1, Mark: 3, Data: []byte("hi")}) || d.Steps() != 2 {
		t.Fatalf("%+v, %d, %d steps", l, e, d.Steps())
	}
	knows(t, "Open", f, api.Stamp{1, 5, 1})

	plan(d)
	is(t, "Save", f.Save(text(t, "h"), false), api.OK)
	steps(t, "Save", d, 7)
	holds(t, "Save", d, "a", mark8+"h", "b", "x")
	knows(t, "Save", f, api.Stamp{3, 4, 1})

	putAll(t, d, "a", "y")
	is(t, "another hand", f.Save(text(t, "h"), false), api.ErrChanged)
	is(t, "by force", f.Save(text(t, "h"), true), api.OK)
	holds(t, "by force", d, "a", mark8+"h", "b", "x")

	was := f.Stamp()
	plan(d, fault(6, api.FaultLie))
	is(t, "a rename that lies", f.Save(text(t, "hh"), false), api.ErrIO)
	steps(t, "a rename that lies", d, 7)
	holds(t, "a rename that lies", d, "a", mark8+"hh", "b", "x")
	knows(t, "a rename that lies", f, was)
	plan(d)
	is(t, "its own", f.Save(text(t, "hh"), false), api.OK)

	plan(d, fault(2, api.FaultLie), fault(3, api.FaultRefuse))
	is(t, "a make that lies", f.Save(text(t, "hh"), false), api.ErrIO)
	holds(t, "a make that lies", d, "a", mark8+"hh", "a~", "", "b", "x")
	plan(d)
	is(t, "over what is left", f.Save(text(t, "h"), false), api.OK)
	steps(t, "over what is left", d, 9)

	was = f.Stamp()
	is(t, "Copy", f.Copy("b", text(t, "k"), false), api.ErrExists)
	is(t, "Copy", f.Copy("c", text(t, "k"), false), api.OK)
	holds(t, "Copy", d, "a", mark8+"h", "b", "x", "c", mark8+"k")
	knows(t, "Copy", f, was)

	is(t, "As", f.As("b"), api.ErrExists)
	is(t, "As", f.As("d"), api.OK)
	is(t, "Save", f.Save(text(t, "z"), false), api.OK)
	holds(t, "As", d, "a", mark8+"h", "b", "x", "c", mark8+"k", "d", mark8+"z")

	plan(d, cutting(7, api.FaultBehind, 0))
	is(t, "behind SyncDir", f.Save(text(t, "zz"), false), api.ErrDown)
	d.Restart()
	holds(t, "behind SyncDir", d, "a", mark8+"h", "b", "x", "c", mark8+"k", "d", mark8+"zz")
	plan(d, cutting(6, api.FaultBehind, 1))
	is(t, "behind Rename", f.Save(text(t, "w"), false), api.ErrDown)
	d.Restart()
	holds(t, "behind Rename", d, "a", mark8+"h", "b", "x", "c", mark8+"k", "d", mark8+"zz", "d~", mark8+"w")
	is(t, "Tidy", save.Tidy(d), api.OK)
	holds(t, "Tidy", d, "a", mark8+"h", "b", "x", "c", mark8+"k", "d", mark8+"zz")
}
