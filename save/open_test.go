package save_test

import (
	"bytes"
	"fmt"
	"strings"
	"testing"

	"copyist/api"
	"copyist/codec"
	"copyist/disk"
	"copyist/save"
)

// TestName, P1701: how long a name may be, which bytes may stand in it, and at its end.
func TestName(t *testing.T) {
	for n := range 70 {
		for _, b := range []string{"x", "-", "0", "Z"} {
			name := strings.Repeat(b, n)
			if save.Name(name) != (n >= 1 && n <= 31) {
				t.Fatalf("Name of %d bytes %q = %v", n, b, save.Name(name))
			}
		}
		if save.Name(strings.Repeat("~", n)) || save.Name(strings.Repeat("x", n)+"~") {
			t.Fatalf("%d bytes and a ~", n)
		}
	}
	for b := range 256 {
		c := string([]byte{byte(b)})
		may := strings.Contains(nameBytes, c)
		for _, row := range []struct {
			name string
			want bool
		}{{c, may && c != "~"}, {c + "a", may}, {"a" + c + "b", may}, {"ab" + c, may && c != "~"}, {strings.Repeat("a", 30) + c, may && c != "~"}, {c + strings.Repeat("a", 30), may}, {c + strings.Repeat("a", 31), false}} {
			if save.Name(row.name) != row.want {
				t.Fatalf("Name(%q) = %v", row.name, !row.want)
			}
		}
	}
	for _, name := range []string{"é", "a\u0301", "日", "a/b", "..", ".", "~~a", "a~b~c"} {
		if save.Name(name) != plainName(name) {
			t.Fatalf("Name(%q) = %v", name, !plainName(name))
		}
	}
}

// TestNameBeside, P1701: a name of 31 bytes has one beside it, which the disk takes.
func TestNameBeside(t *testing.T) {
	name := strings.Repeat("n", 31)
	d := newDisk(t, 99)
	f := open(t, d, name)
	is(t, "Save", f.Save(text(t, "x"), false), api.OK)
	holds(t, "Save", d, name, "x")
	plan(d, fault(6, api.FaultRefuse), fault(7, api.FaultRefuse))
	is(t, "Save", f.Save(text(t, "yy"), false), api.ErrIO)
	holds(t, "Save", d, name, "x", name+"~", "yy")
	for _, bad := range []string{"", "a~", name + "~", name + "n", "a b", "a\x00"} {
		plan(d)
		if f, l, e := save.Open(d, bad, 7, -1); f != nil || l.Enc != 0 || e != api.ErrName {
			t.Fatalf("Open(%q): %v, %+v, %d", bad, f, l, e)
		}
		is(t, bad, f.Copy(bad, text(t, ""), true), api.ErrName)
		is(t, bad, f.As(bad), api.ErrName)
		steps(t, bad, d, 0)
	}
}

// loaded looks at all that Open answers, and at its steps.
func loaded(t *testing.T, d *disk.Disk, name string, enc, limit int, want api.Loaded, err api.Errno, count int) *save.File {
	t.Helper()
	plan(d)
	f, l, e := save.Open(d, name, enc, limit)
	what := fmt.Sprintf("Open(%q, %d, %d)", name, enc, limit)
	if (f == nil) != (err != api.OK) || e != err || l.Enc != want.Enc || l.Mark != want.Mark || l.New != want.New || !bytes.Equal(l.Data, want.Data) {
		t.Fatalf("%s = %v, %+v, %d, want %+v, %d", what, f != nil, l, e, want, err)
	}
	steps(t, what, d, count)
	return f
}

// TestOpenMarks, P1702: bytes with each mark and without, in every encoding; the limit at what stands behind the mark, and one below; and the mark is what a Save writes.
func TestOpenMarks(t *testing.T) {
	marks := map[int]string{api.UTF8: mark8, api.UTF16LE: mark16, api.UTF16BE: mark61}
	bodies := []string{"", "h", "hi", "h\x00i\x00", "\x00h\x00i", "\xE9t\xE9", "\xC3\xA9", mark8, mark16, mark61, mark8[:2], mark16[:1], mark61[:1], "\x00"}
	for _, mark := range []string{"", mark8, mark16, mark61} {
		for _, body := range bodies {
			all := mark + body
			for enc := api.Auto; enc <= api.Latin1; enc++ {
				d := newDisk(t, 999, "a", all)
				want := enc
				if enc == api.Auto {
					want, _ = codec.Guess([]byte(all))
				}
				size := 0
				if m := marks[want]; m != "" && strings.HasPrefix(all, m) {
					size = len(m)
				}
				rest := all[size:]
				f := loaded(t, d, "a", enc, len(rest), api.Loaded{Enc: want, Mark: size, Data: []byte(rest)}, api.OK, 2)
				loaded(t, d, "a", enc, len(rest)+1, api.Loaded{Enc: want, Mark: size, Data: []byte(rest)}, api.OK, 2)
				if len(rest) > 0 {
					loaded(t, d, "a", enc, len(rest)-1, api.Loaded{}, api.ErrFull, 2)
				}
				is(t, "Save", f.Save(text(t, "!"), false), api.OK)
				holds(t, "Save", d, "a", all[:size]+"!")
			}
		}
	}
}

// TestOpenMissing, P1702: a file that isn't there yet, in every encoding: one step, no mark, no stamp.
func TestOpenMissing(t *testing.T) {
	for enc := api.Auto; enc <= api.Latin1; enc++ {
		for _, limit := range []int{0, 1, api.MaxBytes} {
			d := newDisk(t, 99, "b", mark8)
			f := loaded(t, d, "a", enc, limit, api.Loaded{Enc: max(enc, 1), New: true}, api.OK, 1)
			knows(t, "a new file", f, api.Stamp{})
			names(t, "nothing is made", d, "b")
			is(t, "Save", f.Save(text(t, "x"), false), api.OK)
			holds(t, "without a mark", d, "a", "x", "b", mark8)
		}
	}
}

// TestOpenErrors, P1702: each one goes ahead of those behind it; the bounds of all numbers.
func TestOpenErrors(t *testing.T) {
	far := []int{-1 << 63, -7, -1, 5, 6, 7, 1<<63 - 1}
	d := newDisk(t, 99, "a", "four")
	for _, enc := range far {
		loaded(t, d, "a/", enc, -1, api.Loaded{}, api.ErrName, 0)
		loaded(t, d, "a", enc, -1, api.Loaded{}, api.ErrEnc, 0)
		loaded(t, d, "a", enc, 9, api.Loaded{}, api.ErrEnc, 0)
		loaded(t, d, "q", enc, 9, api.Loaded{}, api.ErrEnc, 0)
	}
	for _, limit := range []int{-1 << 63, -1, 65537, 1<<63 - 1} {
		loaded(t, d, "a", api.Auto, limit, api.Loaded{}, api.ErrArg, 0)
		loaded(t, d, "q", api.Latin1, limit, api.Loaded{}, api.ErrArg, 0)
		loaded(t, d, "", api.Latin1, limit, api.Loaded{}, api.ErrName, 0)
	}
	loaded(t, d, "a", api.UTF8, 0, api.Loaded{}, api.ErrFull, 2)
	d.Crash(api.Cut{})
	loaded(t, d, "a~", 9, -1, api.Loaded{}, api.ErrName, 0)
	loaded(t, d, "a", 9, -1, api.Loaded{}, api.ErrEnc, 0)
	loaded(t, d, "a", 4, -1, api.Loaded{}, api.ErrArg, 0)
	loaded(t, d, "a", 4, 0, api.Loaded{}, api.ErrDown, 0)
	loaded(t, d, "q", 4, 0, api.Loaded{}, api.ErrDown, 0)
}

// TestOpenLimit, P1702: the greatest file that may be, with a mark, and one byte more.
func TestOpenLimit(t *testing.T) {
	body := letters(api.MaxBytes)
	d := newDisk(t, api.MaxSpace, "a", mark8+body, "b", mark8+body+"x", "c", body+"x")
	loaded(t, d, "a", api.Auto, api.MaxBytes, api.Loaded{Enc: 1, Mark: 3, Data: []byte(body)}, api.OK, 2)
	loaded(t, d, "a", api.UTF8, api.MaxBytes, api.Loaded{Enc: 1, Mark: 3, Data: []byte(body)}, api.OK, 2)
	loaded(t, d, "a", api.Latin1, api.MaxBytes, api.Loaded{}, api.ErrFull, 2)
	loaded(t, d, "b", api.Auto, api.MaxBytes, api.Loaded{}, api.ErrFull, 2)
	loaded(t, d, "c", api.Auto, api.MaxBytes, api.Loaded{}, api.ErrFull, 2)
}

// TestOpenFaults, P1702: every kind of fault at both steps, of a file and of none.
func TestOpenFaults(t *testing.T) {
	for _, kind := range kinds {
		want := api.ErrIO
		if kind >= api.FaultAhead {
			want = api.ErrDown
		}
		for step := 1; step <= 2; step++ {
			d := newDisk(t, 99, "a", "x")
			plan(d, fault(step, kind))
			f, l, e := save.Open(d, "a", api.Auto, 9)
			if f != nil || l.Enc != 0 || l.Data != nil || l.New || e != want {
				t.Fatalf("step %d, kind %d: %v, %+v, %d", step, kind, f, l, e)
			}
			steps(t, "Open", d, step)
		}
		d := newDisk(t, 99, "b", "x")
		plan(d, fault(1, kind))
		f, l, e := save.Open(d, "a", api.Auto, 9)
		if kind == api.FaultLie { // it fails by itself: there is no such file
			want = api.OK
		}
		if e != want || (f != nil) != (want == api.OK) || l.New != (want == api.OK) {
			t.Fatalf("missing, kind %d: %v, %+v, %d", kind, f, l, e)
		}
		steps(t, "Open", d, 1)
	}
}
