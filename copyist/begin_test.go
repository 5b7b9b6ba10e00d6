package copyist_test

import (
	"slices"
	"strings"
	"testing"

	"copyist/api"
	"copyist/codec"
	"copyist/copyist"
)

// TestWithoutName, P1902: an empty text in every encoding.
func TestWithoutName(t *testing.T) {
	for _, enc := range append([]int{api.Auto}, encodings...) {
		want := enc
		if enc == api.Auto {
			want = api.UTF8
		}
		for _, native := range []int{api.LF, api.CRLF, api.CR} {
			s := in(enc, usual("", "a", "other"))
			s.Native, s.Height = native, 3
			x := begin(t, s).steps(0).named("", want, 0)
			if a := x.see(); !same(a, api.Answer{Enc: want, Sight: api.Sight{Anchor: -1, Percent: 100, Set: api.Settings{Native: native}}}) {
				t.Errorf("encoding %d: %+v", enc, a)
			}
			x.does("ié⏎␛").dirty(true)
			text := []int{0xE9, 10}
			switch native {
			case api.CRLF:
				text = []int{0xE9, 13, 10}
			case api.CR:
				text[1] = 13
			}
			b, _, _ := codec.Encode(want, text)
			x.sees(show(text), 0).does(":w n⏎").named("n", want, 0).files("a", "other", "n", string(b)).dirty(false).ends()
		}
	}
	// what does not fit the encoding is refused
	begin(t, in(api.Latin1, usual(""))).does("i").answers("€", api.ErrFit)
	begin(t, in(api.UTF16BE, usual(""))).does("i€␛:w n⏎").files("n", "\x20\xAC")
	// the limit is the setup's
	s := usual("")
	s.Limit = 3
	begin(t, s).does("iabc").answers("d", api.ErrFull).does("␛").sees("abc", 2)
	s.Limit = 0
	begin(t, s).does("i").answers("d", api.ErrFull).does("␛:w n⏎").files("n", "")
}

// TestLeftOvers, P1902: Tidy takes them away, whatever the session is then; the rest of the disk stays as it is.
func TestLeftOvers(t *testing.T) {
	files := []string{"a", "old", "a~", "left", "b~~", "", "~", "x", "~c", "stays", "d~e", "stays"}
	left := []string{"a", "old", "d~e", "stays", "~c", "stays"}
	for _, c := range []struct {
		name  string
		want  api.Errno
		steps int // three Removes, SyncDir, and those of Open
	}{{"a", api.OK, 6}, {"", api.OK, 4}, {"new", api.OK, 5}, {"~c", api.OK, 6}, {"a~", api.ErrName, 4}, {"~", api.ErrName, 4}, {"x/y", api.ErrName, 4}} {
		d := newDisk(t, 99, files...)
		e, err := copyist.On(d, usual(c.name))
		if err != c.want || (e == nil) != (err != api.OK) || d.Steps() != c.steps {
			t.Errorf("%q: %d, %d steps; want %d, %d", c.name, err, d.Steps(), c.want, c.steps)
		}
		d.Crash(api.Cut{}) // what was taken away lasts
		d.Restart()
		if got := filesOn(t, d); !slices.Equal(got, left) {
			t.Errorf("%q: the disk holds %q", c.name, got)
		}
	}
	// a disk without them: no step of Tidy's
	d := newDisk(t, 99, "a", "old")
	if _, err := copyist.On(d, usual("a")); err != api.OK || d.Steps() != 2 {
		t.Errorf("%d, %d steps", err, d.Steps())
	}
	// the left-overs of New's own files are gone too
	a := run(t, usual("a", "a", "x", "a~", "y", "b~", "z"), api.Step{Kind: api.StepNames})
	if !slices.Equal(a[0].Names, []string{"a"}) {
		t.Errorf("%q", a[0].Names)
	}
}

// TestNamesThatOpen, P1902: which names can be opened, and what is there then.
func TestNamesThatOpen(t *testing.T) {
	long := strings.Repeat("n", 31)
	for _, c := range []struct {
		name string
		want api.Errno
	}{{"a", api.OK}, {long, api.OK}, {long + "n", api.ErrName}, {"a~", api.ErrName}, {"a b", api.ErrName}, {"é", api.ErrName}, {"/", api.ErrName}, {".", api.OK}, {"-_.~x", api.OK}, {"\x00", api.ErrName}} {
		s := usual(c.name, "a", "x")
		if e, err := copyist.New(s); err != c.want || (e == nil) != (err != api.OK) {
			t.Errorf("%q: %d, want %d", c.name, err, c.want)
		}
		d := newDisk(t, 99)
		if _, err := copyist.On(d, s); err != c.want || !slices.Equal(filesOn(t, d), []string{"a", "x"}) {
			t.Errorf("%q: %d, want %d; the disk holds %q", c.name, err, c.want, filesOn(t, d))
		}
	}
	// a file that isn't there yet: an empty text with a name, and no file until it is saved
	for _, enc := range append([]int{api.Auto}, encodings...) {
		x := begin(t, in(enc, usual("n", "a", "x"))).steps(1).named("n", max(enc, 1), 0).sees("", 0).dirty(false).files("a", "x")
		x.does(":w⏎").files("a", "x", "n", "").ends()
	}
}

// TestLimit, P1902: the bytes of a text, the mark left out.
func TestLimit(t *testing.T) {
	for _, c := range []struct {
		enc, limit int
		data       string
		want       api.Errno
	}{
		{api.Auto, 3, "abc", api.OK}, {api.Auto, 3, "abcd", api.ErrFull}, {api.Auto, 3, mark8 + "abc", api.OK}, {api.Auto, 3, mark8 + "abcd", api.ErrFull},
		{api.Latin1, 5, mark8 + "abc", api.ErrFull}, {api.Latin1, 6, mark8 + "abc", api.OK}, {api.UTF16BE, 2, mark61 + "\x00a", api.OK}, {api.UTF16LE, 2, mark61 + "\x00a", api.ErrFull},
		{api.Auto, 0, "", api.OK}, {api.Auto, 0, mark16, api.OK}, {api.Auto, 0, "a", api.ErrFull},
		{api.UTF8, 65536, mark8 + letters(65536), api.OK}, {api.UTF8, 65536, letters(65537), api.ErrFull},
	} {
		s := in(c.enc, usual("a", "a", c.data))
		s.Limit, s.Space = c.limit, 200000
		e, err := copyist.New(s)
		if err != c.want || (e == nil) != (err != api.OK) {
			t.Errorf("%.20q, limit %d: %d, want %d", c.data, c.limit, err, c.want)
		}
		if err != api.OK {
			continue
		}
		x := begin(t, s)
		if c.limit == len(x.see().Sight.Text) {
			x.does("i").answers("x", api.ErrFull).does("␛")
		}
		x.does(":w⏎").file("a", c.data).ends()
	}
}

// TestMachine, P1902: the machine has the setup's numbers.
func TestMachine(t *testing.T) {
	s := usual("a", "a", strings.Repeat("x\n", 30))
	s.Height = 4
	begin(t, s).does("L").sees(strings.Repeat("x\n", 30), 6)
	s.Depth = 2
	begin(t, s).does("xjxjx2u").answers("u", api.ErrOldest).sees("\nx\n"+strings.Repeat("x\n", 28), 1)
	// the native break is the text's own, if it has one
	s.Files[0].Data = []byte("a\rb\n")
	begin(t, s).does("o␛").sees("a\r\rb\n", 2)
}
