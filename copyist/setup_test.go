package copyist_test

import (
	"math"
	"slices"
	"strconv"
	"strings"
	"testing"

	"copyist/api"
	"copyist/copyist"
	"copyist/disk"
)

// turned is the usual setup on a file, with something turned.
func turned(turn func(s *api.Setup)) api.Setup {
	s := usual("a", "a", "x", "b", "y")
	turn(&s)
	return s
}

// setupRow is a setup and what New and On answer to it.
type setupRow struct {
	turn func(s *api.Setup)
	want api.Errno
}

// numberRows: each number at both ends of its bounds, one past each, and far past.
func numberRows() []setupRow {
	rows := []setupRow{}
	add := func(set func(s *api.Setup, n int), least, most int, err api.Errno) {
		for _, n := range []int{least - 1, most + 1, math.MinInt, math.MaxInt} {
			rows = append(rows, setupRow{func(s *api.Setup) { set(s, n) }, err})
		}
		for _, n := range []int{least, most} {
			rows = append(rows, setupRow{func(s *api.Setup) { set(s, n) }, api.OK})
		}
	}
	add(func(s *api.Setup, n int) { s.Enc = n }, 0, 4, api.ErrEnc)
	add(func(s *api.Setup, n int) { s.Limit = n; s.Name = "" }, 0, 65536, api.ErrArg)
	add(func(s *api.Setup, n int) { s.Native = n }, 1, 3, api.ErrArg)
	add(func(s *api.Setup, n int) { s.Depth = n }, 1, 200, api.ErrArg)
	add(func(s *api.Setup, n int) { s.Height = n }, 1, 200, api.ErrArg)
	return rows
}

// wrongs are setups that are refused, each at a later place than the one ahead of it.
func wrongs() []setupRow {
	return []setupRow{
		{func(s *api.Setup) { s.Enc = 5 }, api.ErrEnc},
		{func(s *api.Setup) { s.Depth = 0 }, api.ErrArg},
		{func(s *api.Setup) { s.Files = append(s.Files, api.File{Name: "no name"}) }, api.ErrName},
		{func(s *api.Setup) { s.Name = "a/b" }, api.ErrName},
		{func(s *api.Setup) { s.Limit = 0 }, api.ErrFull},
	}
}

// TestNumbers, P1901: the bounds of each number, by New and by On.
func TestNumbers(t *testing.T) {
	for i, row := range numberRows() {
		s := turned(row.turn)
		e, err := copyist.New(s)
		if err != row.want || (e == nil) != (err != api.OK) {
			t.Errorf("New, row %d: %d, want %d", i, err, row.want)
		}
		d := newDisk(t, 100, "old", "file", "left~", "over")
		e, err = copyist.On(d, s)
		if err != row.want || (e == nil) != (err != api.OK) {
			t.Errorf("On, row %d: %d, want %d", i, err, row.want)
		}
		if want := []string{"left~", "old"}; err != api.OK && (!slices.Equal(d.Names(), want) || d.Steps() != 0) {
			t.Errorf("On, row %d: refused, and yet the disk has %q, %d steps", i, d.Names(), d.Steps())
		}
	}
	for _, native := range []int{api.LF, api.CRLF, api.CR} {
		a := run(t, turned(func(s *api.Setup) { s.Native = native }), typed("A⏎␛"), seen)
		want := map[int]string{api.LF: "x\n", api.CRLF: "x\r\n", api.CR: "x\r"}[native]
		if a[1].Sight.Set.Native != native || show(a[1].Sight.Text) != want {
			t.Errorf("native %d: %+v", native, a[1].Sight)
		}
	}
}

// TestSpace, P1901: the room of the new disk; On doesn't look at it.
func TestSpace(t *testing.T) {
	for _, c := range []struct {
		space int
		want  api.Errno
	}{{-1, api.ErrArg}, {1<<20 + 1, api.ErrArg}, {math.MinInt, api.ErrArg}, {math.MaxInt, api.ErrArg}, {0, api.ErrSpace}, {1, api.ErrSpace}, {2, api.OK}, {1 << 20, api.OK}} {
		s := turned(func(s *api.Setup) { s.Space = c.space })
		if e, err := copyist.New(s); err != c.want || (e == nil) != (err != api.OK) {
			t.Errorf("New, space %d: %d, want %d", c.space, err, c.want)
		}
		if e, err := copyist.On(newDisk(t, 2), s); err != api.OK || e == nil {
			t.Errorf("On, space %d: %d", c.space, err)
		}
		if e, err := copyist.On(newDisk(t, 1), s); err != api.ErrSpace || e != nil {
			t.Errorf("On a disk that is too little: %d", err)
		}
	}
	s := usual("", "a", strings.Repeat("x", 10))
	s.Space = 0
	s.Files = nil
	if _, err := copyist.New(s); err != api.OK {
		t.Errorf("no room at all, and none needed: %d", err)
	}
	// the room is all that there is to be written
	s = usual("a", "a", "12345")
	s.Space = 10
	begin(t, s).does("x:w⏎").file("a", "2345").does("Abcdefg␛").answers(":w⏎", api.ErrSpace).files("a", "2345").dirty(true).does("5X:w⏎").file("a", "2345g").ends()
	// New's disk has that room too
	a := run(t, s, typed("Abcdef␛:w⏎"), looked("a"), typed("xXx:w⏎"), typed("p:w⏎"), looked("a"), api.Step{Kind: api.StepNames})
	went(t, a[0], 9, api.ErrSpace)
	held(t, a[1], "12345")
	if len(a[5].Names) != 1 {
		t.Errorf("%q", a[5].Names)
	}
	// a space at its upper end holds so much, and no more
	s = usual("")
	s.Space = api.MaxSpace
	a = run(t, s, api.Step{Kind: api.StepPoke, Name: "a", Data: make([]byte, 1<<20)}, api.Step{Kind: api.StepPoke, Name: "a", Data: make([]byte, 1<<20+1)})
	if a[0].Err != api.OK || a[1].Err != api.ErrSpace {
		t.Errorf("%d, %d", a[0].Err, a[1].Err)
	}
}

// TestOrder, P1901: of several things that are wrong the first one is told.
func TestOrder(t *testing.T) {
	all := wrongs()
	for first := range all {
		s := turned(func(s *api.Setup) {
			for _, row := range all[first:] {
				row.turn(s)
			}
		})
		want := all[first].want
		if _, err := copyist.New(s); err != want {
			t.Errorf("New, from the fault %d on: %d, want %d", first, err, want)
		}
		if _, err := copyist.On(newDisk(t, 99), s); err != want {
			t.Errorf("On, from the fault %d on: %d, want %d", first, err, want)
		}
		if want != api.ErrEnc {
			want = api.ErrArg // a disk that may not be comes ahead of its files
		}
		s.Space = -1
		if _, err := copyist.New(s); err != want {
			t.Errorf("New without a space, from the fault %d on: %d, want %d", first, err, want)
		}
	}
	// ErrEnc goes ahead of a space that may not be
	if _, err := copyist.New(turned(func(s *api.Setup) { s.Enc, s.Space = -1, -1 })); err != api.ErrEnc {
		t.Errorf("%d", err)
	}
	if _, err := copyist.On(newDisk(t, 99), turned(func(s *api.Setup) { s.Enc, s.Space, s.Limit = -1, -1, -1 })); err != api.ErrEnc {
		t.Errorf("%d", err)
	}
	if e, err := copyist.On(nil, turned(func(s *api.Setup) {})); e != nil || err == api.OK {
		t.Errorf("On no disk: %d", err)
	}
	if _, err := copyist.On(nil, turned(func(s *api.Setup) { s.Enc = 9 })); err != api.ErrEnc {
		t.Errorf("On no disk: %d", err)
	}
}

// TestFilesArePut, P1901: one by one, up to the first that can't be; what was put stays.
func TestFilesArePut(t *testing.T) {
	long := strings.Repeat("n", 32)
	for _, c := range []struct {
		files []string
		space int
		want  api.Errno
		left  []string
	}{
		{[]string{"a", "1", "b", "22", "a", "333"}, 5, api.OK, []string{"a", "333", "b", "22"}},
		{[]string{"a", "1", "", "2", "c", "3"}, 9, api.ErrName, []string{"a", "1"}},
		{[]string{"a", "1", "x y", "2", "c", "3"}, 9, api.ErrName, []string{"a", "1"}},
		{[]string{"a", "1", "é", "2"}, 9, api.ErrName, []string{"a", "1"}},
		{[]string{"a", "1", long + "n", "2"}, 9, api.ErrName, []string{"a", "1"}},
		{[]string{"a", "1", long, "2"}, 9, api.OK, []string{"a", "1", long, "2"}},
		{[]string{"a", "1", "b", "2345", "c", ""}, 4, api.ErrSpace, []string{"a", "1"}},
		{[]string{"a", "1", "b", "2345", "c", ""}, 5, api.OK, []string{"a", "1", "b", "2345", "c", ""}},
		{[]string{"a", "1", "b~", "left", "c~", ""}, 9, api.OK, []string{"a", "1"}},
		{[]string{"a", "12345", "a", "123456", "a", "1"}, 5, api.ErrSpace, []string{"a", "12345"}},
	} {
		s := usual("a", c.files...)
		s.Space = c.space
		if _, err := copyist.New(s); err != c.want {
			t.Errorf("New, files %q: %d, want %d", c.files, err, c.want)
		}
		d := newDisk(t, c.space)
		if _, err := copyist.On(d, s); err != c.want {
			t.Errorf("On, files %q: %d, want %d", c.files, err, c.want)
		}
		if got := filesOn(t, d); !slices.Equal(got, c.left) {
			t.Errorf("On, files %q: the disk holds %q, want %q", c.files, got, c.left)
		}
	}
	many := usual("f0")
	for i := range 16 {
		many.Files = append(many.Files, api.File{Name: "f" + strconv.Itoa(i)})
	}
	if _, err := copyist.New(many); err != api.OK {
		t.Errorf("MaxFiles files: %d", err)
	}
	many.Files = append(many.Files, api.File{Name: "g"})
	d := newDisk(t, 9)
	if _, err := copyist.On(d, many); err != api.ErrSpace || len(d.Names()) != 16 {
		t.Errorf("one file more: %d, %q", err, d.Names())
	}
	many.Files[16].Name = "f3"
	if _, err := copyist.New(many); err != api.OK {
		t.Errorf("a file twice: %d", err)
	}
}

// TestOn, P1901: what stands on the disk is there; what another editor did is known by the files alone.
func TestOn(t *testing.T) {
	d := newDisk(t, 99, "a", "old", "c", "see")
	s := usual("a", "b", "new")
	e, err := copyist.On(d, s)
	if err != api.OK {
		t.Fatal(err)
	}
	for _, k := range strokes("yyxqaq:set ic⏎/l⏎:s/l/m/⏎ma:w⏎") {
		if a := e.Do(api.Step{Kind: api.StepKey, N: k}); a.Err != api.OK {
			t.Fatalf("key %d: %d", k, a.Err)
		}
	}
	if got := filesOn(t, d); !slices.Equal(got, []string{"a", "md", "b", "new", "c", "see"}) {
		t.Errorf("%q", got)
	}
	d.Plan(nil)
	f, err := copyist.On(d, usual("a"))
	if err != api.OK || d.Steps() != 2 {
		t.Fatalf("%d, %d steps", err, d.Steps())
	}
	a := f.Do(seen)
	if show(a.Sight.Text) != "md" || a.Sight.Set != (api.Settings{Native: api.LF}) || a.Sight.At != 0 || a.Sight.Dirty {
		t.Errorf("%+v", a)
	}
	for _, name := range allRegisters {
		if a := f.Do(api.Step{Kind: api.StepReg, N: name}); a.Err != api.ErrEmpty {
			t.Errorf("the register %c: %+v", rune(name), a)
		}
	}
	for _, key := range "n&.u" {
		if a := f.Do(api.Step{Kind: api.StepKey, N: int(key)}); a.Err == api.OK {
			t.Errorf("%q is known", key)
		}
	}
}

// TestOnDiskThatIsDown, P1901, P1902: with files it is the first of them that is refused, without them Tidy.
func TestOnDiskThatIsDown(t *testing.T) {
	for _, s := range []api.Setup{usual("a"), usual("a", "b", "new"), usual(""), usual("a", "no name", ""), usual("no name")} {
		d := newDisk(t, 99, "a", "old", "a~", "left")
		d.Crash(api.Cut{})
		if e, err := copyist.On(d, s); err != api.ErrDown || e != nil {
			t.Errorf("%q: %d", s.Name, err)
		}
		if !d.Down() {
			t.Error("up again")
		}
		d.Restart()
		if got := filesOn(t, d); !slices.Equal(got, []string{"a", "old", "a~", "left"}) {
			t.Errorf("%q", got)
		}
	}
}

// TestOnWithFaults, P1902: the steps of Tidy and Open are the disk's, and a plan that stands there meets them.
func TestOnWithFaults(t *testing.T) {
	files := []string{"a", "old", "a~", "left", "b~", "left"}
	// Remove a~, Remove b~, SyncDir, Stamp a, Read a
	for step := 1; step <= 6; step++ {
		for _, kind := range kindsOfFaults {
			one, two := newDisk(t, 99, files...), newDisk(t, 99, files...)
			for _, d := range []*disk.Disk{one, two} {
				d.Plan([]api.Fault{cutting(step, kind, 1)})
			}
			s := usual("a", "c", "put")
			e, err := copyist.On(one, s)
			_, want := plainOn(two, s)
			if err != want || (e == nil) != (err != api.OK) || (err == api.OK) != (step == 6) {
				t.Errorf("fault %d at step %d: %d, want %d", kind, step, err, want)
			}
			if one.Steps() != two.Steps() || one.Steps() != min(step, 5) || one.Down() != two.Down() {
				t.Errorf("fault %d at step %d: %d steps, down %v", kind, step, one.Steps(), one.Down())
			}
			one.Restart()
			two.Restart()
			one.Plan(nil)
			two.Plan(nil)
			got, plain := filesOn(t, one), filesOn(t, two)
			if !slices.Equal(got, plain) || !slices.Contains(got, "put") {
				t.Errorf("fault %d at step %d: the disk holds %q, want %q", kind, step, got, plain)
			}
		}
	}
}
