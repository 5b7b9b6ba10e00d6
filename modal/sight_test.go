package modal_test

import (
	"math"
	"slices"
	"testing"

	"copyist/api"
	"copyist/modal"
	"copyist/operate"
)

// TestNewErrors, P1801: each error, the desk's ahead of the height's; heights at both ends of their bounds and one past each.
func TestNewErrors(t *testing.T) {
	three := []byte("abc")
	for i, c := range []struct {
		enc                          int
		b                            []byte
		limit, native, depth, height int
		want                         api.Errno
	}{
		{9, three, 2, 0, 0, 0, api.ErrArg}, {9, three, 2, 4, 1, 1, api.ErrArg}, {9, three, 2, -1, 1, 1, api.ErrArg},
		{9, three, 2, 1, 0, 0, api.ErrArg}, {9, three, 2, 1, 201, 0, api.ErrArg},
		{9, three, -1, 1, 1, 0, api.ErrEnc}, {api.Auto, three, 3, 1, 1, 1, api.ErrEnc}, {-1, three, 3, 1, 1, 201, api.ErrEnc},
		{1, three, -1, 1, 1, 0, api.ErrArg}, {1, three, 65537, 1, 1, 1, api.ErrArg}, {1, three, 2, 1, 1, 0, api.ErrFull}, {4, three, 2, 3, 200, 201, api.ErrFull},
		{1, three, 3, 1, 1, 0, api.ErrArg}, {1, three, 3, 1, 1, -1, api.ErrArg}, {1, three, 3, 1, 1, 201, api.ErrArg}, {1, three, 3, 1, 1, math.MinInt, api.ErrArg}, {1, three, 3, 1, 1, math.MaxInt, api.ErrArg},
		{1, three, 3, 1, 1, 1, api.OK}, {2, three, 3, 2, 200, 200, api.OK}, {3, three, 65536, 3, 7, 199, api.OK}, {4, nil, 0, 1, 1, 2, api.OK},
	} {
		m, err := modal.New(c.enc, c.b, c.limit, c.native, c.depth, c.height)
		if err != c.want || (m == nil) != (c.want != api.OK) {
			t.Errorf("%d: %v, %d, want %d", i, m, err, c.want)
		}
	}
}

// TestNew, P1801: what is seen at the beginning, and what there is not.
func TestNew(t *testing.T) {
	for _, c := range []struct {
		text   string
		native int
		set    int
	}{
		{"", api.CR, api.CR}, {"a", api.CRLF, api.CRLF}, {"\nab", api.CR, api.LF}, {"\r\n\n", api.LF, api.CRLF}, {"a\rb", api.LF, api.CR}, {"\u0301x", api.LF, api.LF},
	} {
		x := usual.broken(c.native).load(t, []byte(c.text))
		s := x.m.See()
		tags := []int{}
		for i := range c.text {
			tags = append(tags, i)
		}
		want := api.Sight{Text: spell(c.text), Tags: tags, Anchor: -1, Percent: s.Percent, Set: api.Settings{Native: c.set}}
		if !sameSight(s, want) || len(x.state().Marks)+len(x.state().Regs)+len(x.state().Find)+len(x.state().Sub.Pat) > 0 {
			t.Errorf("%q: %+v, want %+v", c.text, s, want)
		}
	}
	load(t, "a").refuses('.', api.ErrNothing).refuses(';', api.ErrMove).refuses(',', api.ErrMove).refuses('n', api.ErrEmpty).refuses('N', api.ErrEmpty).refuses('u', api.ErrOldest).refuses('&', api.ErrEmpty).fails("gv", api.ErrNothing).fails("@@", api.ErrEmpty).fails("''", api.ErrMark)
	// the goal column is 0
	load(t, "\n\tab").does("j").at(1)
}

// seen checks all fields of the sight but the text, its tags and the settings.
func (x *pair) seen(want api.Sight) *pair {
	x.t.Helper()
	s := x.m.See()
	want.Text, want.Tags, want.Set = s.Text, s.Tags, s.Set
	if !sameSight(s, want) {
		x.t.Fatalf("%+v\nwant %+v", s, want)
	}
	return x
}

// TestSightInEachMode, P1802: every field of the sight in every mode, in the tail too.
func TestSightInEachMode(t *testing.T) {
	x := usual.high(2).load(t, []byte("ab\n\te\u0301\u4e00x\nq\n"))
	x.seen(api.Sight{Anchor: -1, Percent: 33})
	x.does("2").seen(api.Sight{Anchor: -1, Percent: 33, Pending: []int{'2'}})
	x.does("\"ad").seen(api.Sight{Anchor: -1, Percent: 33, Pending: spell("2\"ad")}).does("␛")
	x.does("j$").seen(api.Sight{Anchor: -1, At: 7, Percent: 66, Cell: 11})
	x.does("h").seen(api.Sight{Anchor: -1, At: 6, Percent: 66, Cell: 9})
	x.does("h").seen(api.Sight{Anchor: -1, At: 4, Percent: 66, Cell: 8})
	x.does("v").seen(api.Sight{Mode: api.Visual, Anchor: 4, At: 4, Percent: 66, Cell: 8})
	x.does("l").seen(api.Sight{Mode: api.Visual, Anchor: 4, At: 6, Percent: 66, Cell: 9})
	x.does("3\"").seen(api.Sight{Mode: api.Visual, Anchor: 4, At: 6, Percent: 66, Cell: 9, Pending: spell("3\"")}).does("␛")
	x.does("V").seen(api.Sight{Mode: api.VisualLine, Anchor: 4, At: 6, Percent: 66, Cell: 9})
	x.does("/q").seen(api.Sight{Mode: api.Search, Anchor: -1, At: 6, Percent: 66, Cell: 9, Line: spell("q")})
	x.does("␖").seen(api.Sight{Mode: api.Search, Anchor: -1, At: 6, Percent: 66, Cell: 9, Line: spell("q"), Pending: []int{22}}).does("␛")
	x.seen(api.Sight{Mode: api.Search, Anchor: -1, At: 6, Percent: 66, Cell: 9, Line: []int{'q', 27}}).does("⌫⏎")
	x.seen(api.Sight{Mode: api.VisualLine, Anchor: 4, At: 9, Percent: 100, Top: 1})
	x.does("?").seen(api.Sight{Mode: api.SearchBack, Anchor: -1, At: 9, Percent: 100, Top: 1}).does("ab")
	x.seen(api.Sight{Mode: api.SearchBack, Anchor: -1, At: 9, Percent: 100, Top: 1, Line: spell("ab")}).does("␛")
	x.seen(api.Sight{Mode: api.VisualLine, Anchor: 4, At: 9, Percent: 100, Top: 1})
	x.does(":").seen(api.Sight{Mode: api.Command, Anchor: -1, At: 4, Percent: 66, Cell: 8, Top: 1, Line: spell("'<,'>")})
	x.does("␖").seen(api.Sight{Mode: api.Command, Anchor: -1, At: 4, Percent: 66, Cell: 8, Top: 1, Line: spell("'<,'>"), Pending: []int{22}}).does("␛␛")
	x.seen(api.Sight{Anchor: -1, At: 4, Percent: 66, Cell: 8, Top: 1})
	x.does("qB").seen(api.Sight{Anchor: -1, At: 4, Percent: 66, Cell: 8, Top: 1, Record: 'b'})
	x.does("R").seen(api.Sight{Mode: api.Replace, Anchor: -1, At: 4, Percent: 66, Cell: 8, Top: 1, Record: 'b'})
	x.does("z").seen(api.Sight{Mode: api.Replace, Anchor: -1, At: 5, Percent: 66, Cell: 9, Top: 1, Record: 'b', Dirty: true})
	x.does("␖").seen(api.Sight{Mode: api.Replace, Anchor: -1, At: 5, Percent: 66, Cell: 9, Top: 1, Record: 'b', Dirty: true, Pending: []int{22}}).does("é␛")
	x.seen(api.Sight{Anchor: -1, At: 5, Percent: 66, Cell: 9, Top: 1, Record: 'b', Dirty: true})
	x.does("qGA").seen(api.Sight{Mode: api.Insert, Anchor: -1, At: 9, Percent: 100, Cell: 1, Top: 1, Dirty: true})
	x.does("⏎").seen(api.Sight{Mode: api.Insert, Anchor: -1, At: 10, Percent: 100, Top: 2, Dirty: true})
	x.does("␖").seen(api.Sight{Mode: api.Insert, Anchor: -1, At: 10, Percent: 100, Top: 2, Dirty: true, Pending: []int{22}})
}

// TestSightInTheTail, P1802: behind the last break; the window shows the last line.
func TestSightInTheTail(t *testing.T) {
	x := usual.high(1).load(t, []byte("a\nb")).does("jA⏎")
	x.seen(api.Sight{Mode: api.Insert, Anchor: -1, At: 4, Percent: 100, Top: 1, Dirty: true})
	x.does("␛").seen(api.Sight{Anchor: -1, At: 2, Percent: 100, Top: 1, Dirty: true})
	x = usual.high(3).load(t, []byte("")).does("i⏎")
	x.seen(api.Sight{Mode: api.Insert, Anchor: -1, At: 1, Percent: 100, Dirty: true})
	x.does("⏎").seen(api.Sight{Mode: api.Insert, Anchor: -1, At: 2, Percent: 100, Dirty: true})
	x.does("x").seen(api.Sight{Mode: api.Insert, Anchor: -1, At: 3, Percent: 100, Cell: 1, Dirty: true})
}

// TestSightTells, P1802: text, tags and settings; being changed follows the book.
func TestSightTells(t *testing.T) {
	x := load(t, "aé\nb").does("lx:set ic nows br=cr⏎")
	s := x.m.See()
	if !slices.Equal(s.Text, spell("a\nb")) || !slices.Equal(s.Tags, []int{0, 3, 4}) || s.Set != (api.Settings{IgnoreCase: true, NoWrap: true, Native: api.CR}) || !s.Dirty {
		t.Errorf("%+v", s)
	}
	x.does("u")
	if x.m.See().Dirty {
		t.Error("what was undone is dirty")
	}
	x.does("A!␛")
	x.both(func(d *operate.Desk) { d.Book.Saved() })
	if x.m.See().Dirty {
		t.Error("what was saved is dirty")
	}
	x.does("u")
	if !x.m.See().Dirty {
		t.Error("what is not what was saved is not dirty")
	}
}

// TestReg, P1802: the bank's Get.
func TestReg(t *testing.T) {
	x := load(t, "ab\ncd\n").does("\"ayyx")
	x.holds('a', api.ByLines, "ab\n").holds('A', api.ByLines, "ab\n").holds('-', api.ByChars, "a").holds(0, api.ByChars, "a").holds('"', api.ByChars, "a").empty('b').empty('_')
	for _, name := range []int{-1, '!', 1 << 40, '~'} {
		if _, err := x.m.Reg(name); err != api.ErrReg {
			t.Errorf("%d: %d", name, err)
		}
	}
}

// TestDesk, P1802: the machine's desk itself, and always the same one; what is set there is the machine's.
func TestDesk(t *testing.T) {
	x := load(t, "foo bar\nfoo\n")
	d := x.m.Desk()
	x.both(func(d *operate.Desk) { d.At = 4 })
	x.at(4).does("x").sees("foo ar\nfoo\n", 4)
	x.both(func(d *operate.Desk) {
		d.Find = spell("o")
		d.Sub = api.Sub{Pat: spell("a"), Rep: spell("<&>")}
		d.Set.Native = api.CRLF
	})
	x.does("n").at(8).does("N").at(2).does("&").sees("foo <a>r\nfoo\n", 0)
	x.does("/f⏎").at(9)
	x.both(func(d *operate.Desk) { d.Set.NoWrap, d.Find = true, spell("O") })
	x.refuses('n', api.ErrMatch)
	x.both(func(d *operate.Desk) { d.Set.IgnoreCase = true })
	x.does("n").at(10).does("oz␛").sees("foo <a>r\nfoo\nz\r\n", 13)
	x.keys("d9@:zz⏎:1,1⏎u")
	if x.m.Desk() != d {
		t.Error("another desk")
	}
	x.both(func(d *operate.Desk) { d.Bank = d.Bank.Copy() })
	x.does("yyp")
}

// TestSeeChangesNothing, P1802.
func TestSeeChangesNothing(t *testing.T) {
	for _, keys := range []string{"", "2d", "v", "V", "i", "ix", "R", ":ab", "/ab", "?", "qa", "i␖", ":␖", "A⏎"} {
		x := load(t, "ab\ncd\n").does(keys)
		for range 3 {
			x.m.See()
		}
		x.keys("x␛␛u")
	}
}
