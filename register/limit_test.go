package register_test

import (
	"slices"
	"testing"

	"copyist/api"
	"copyist/register"
)

const most = api.MaxReg

func longReg(kind, n int, end ...int) api.Reg {
	return api.Reg{Kind: kind, Text: append(long(n-len(end)), end...)}
}

// TestLimitWritten: a text of MaxReg atoms is kept, the 10 behind its lines counted; one more is refused.
func TestLimitWritten(t *testing.T) {
	cases := []struct {
		r  api.Reg
		ok bool
	}{
		{longReg(api.ByChars, most), true},
		{longReg(api.ByChars, most+1), false},
		{longReg(api.ByChars, most, 10), true},
		{longReg(api.ByChars, most+1, 10), false},
		{longReg(api.ByLines, most-1), true},
		{longReg(api.ByLines, most), false},
		{longReg(api.ByLines, most, 10), true},
		{longReg(api.ByLines, most, 13), true},
		{longReg(api.ByLines, most, 13, 10), true},
		{longReg(api.ByLines, most+1, 10), false},
		{longReg(api.ByLines, most+1), false},
		{longReg(api.ByChars, 5*most), false},
	}
	for _, c := range cases {
		want := api.ErrLong
		if c.ok {
			want = api.OK
		}
		kept := c.r
		if n := len(c.r.Text); kept.Kind == api.ByLines && c.r.Text[n-1] > 13 {
			kept.Text = append(slices.Clone(c.r.Text), 10)
		}
		for _, name := range []int{'a', 'Z', '0', '5', '-', 0, '"'} {
			for _, take := range []func(*register.Bank, int, api.Reg) api.Errno{(*register.Bank).Yank, (*register.Bank).Delete} {
				b := register.New()
				b.Delete(0, rows("was"))
				was := look(b)
				is(t, "taken", take(b, name, c.r), want)
				if c.ok {
					holds(t, b, kept, 0)
				} else {
					stays(t, "too long", b, was)
				}
			}
		}
		is(t, "the hole", register.New().Yank('_', c.r), api.OK)
		is(t, "the hole", register.New().Delete('_', c.r), api.OK)
	}
}

// TestLimitSet: likewise, but no 10 is written.
func TestLimitSet(t *testing.T) {
	for _, name := range []int{'a', 'Z', '0', '9', '-', '.', ':', '/'} {
		b := register.New()
		b.Set(name, spell("was"))
		if name == 'Z' {
			b.Set('z', nil)
		}
		was := look(b)
		is(t, "Set, one too many", b.Set(name, long(most+1)), api.ErrLong)
		stays(t, "Set, one too many", b, was)
		is(t, "Set, at the limit", b.Set(name, long(most)), api.OK)
		holds(t, b, api.Reg{Text: long(most)}, name)
		if name == 'Z' {
			is(t, "Set, one more", b.Set(name, spell("x")), api.ErrLong)
		} else {
			is(t, "Set, in its place", b.Set(name, spell("x")), api.OK)
		}
		is(t, "Set without atoms", b.Set(name, nil), api.OK)
	}
}

// TestLimitAppended: all of it counts, the break that comes between or behind too.
func TestLimitAppended(t *testing.T) {
	cases := []struct {
		own, w api.Reg
		extra  int // atoms beside those of the two
	}{
		{longReg(api.ByChars, 1000), chars("x"), 0},
		{longReg(api.ByChars, 1000), chars("xn"), 0},
		{longReg(api.ByLines, 1000, 10), chars("x"), 1},
		{longReg(api.ByLines, 1000, 13), chars("xy"), 1},
		{longReg(api.ByLines, 1000, 13, 10), chars("x"), 2},
		{longReg(api.ByLines, 1000, 13, 10), rows("x"), 1},
		{longReg(api.ByLines, 1000, 13, 10), rows("xn"), 0},
		{longReg(api.ByChars, 1000), rows("x"), 2},
		{longReg(api.ByChars, 1000), rows(""), 2},
		{longReg(api.ByChars, 1000), rows("xr"), 1},
		{longReg(api.ByChars, 1000), rows("xrn"), 2},
	}
	for _, c := range cases {
		for over := -2; over <= 2; over++ {
			fill := most + over - c.extra - len(c.w.Text) - len(c.own.Text)
			own := api.Reg{Kind: c.own.Kind, Text: append(long(fill), c.own.Text...)}
			if len(own.Text) > most { // too long by itself
				continue
			}
			want := api.OK
			if over > 0 {
				want = api.ErrLong
			}
			for _, take := range takers(c.w.Kind) {
				b := register.New()
				is(t, "own", b.Yank('m', own), api.OK)
				b.Yank('x', chars("x"))
				was := look(b)
				is(t, "appended", take(b, 'M', c.w), want)
				if over > 0 {
					stays(t, "too long", b, was)
				} else if r, _ := b.Get('m'); len(r.Text) != most+over {
					t.Fatalf("%d atoms, want %d", len(r.Text), most+over)
				}
			}
		}
	}
}

func takers(kind int) []func(*register.Bank, int, api.Reg) api.Errno {
	calls := []func(*register.Bank, int, api.Reg) api.Errno{(*register.Bank).Yank, (*register.Bank).Delete}
	if kind == api.ByChars {
		calls = append(calls, func(b *register.Bank, name int, r api.Reg) api.Errno { return b.Set(name, r.Text) })
	}
	return calls
}

// TestLimitSmall: under the small name only what is written counts, whatever the register holds; nothing is never too long.
func TestLimitSmall(t *testing.T) {
	b := register.New()
	is(t, "full", b.Yank('a', longReg(api.ByChars, most)), api.OK)
	is(t, "full, nothing appended", b.Yank('A', chars("")), api.OK)
	is(t, "full, nothing appended", b.Delete('A', chars("")), api.OK)
	is(t, "full, nothing appended", b.Set('A', nil), api.OK)
	holds(t, b, longReg(api.ByChars, most), 'a', 0)
	is(t, "full, one more", b.Yank('A', chars("x")), api.ErrLong)
	is(t, "full, an empty line more", b.Yank('A', rows("")), api.ErrLong)
	is(t, "full, one more", b.Set('A', spell("x")), api.ErrLong)
	is(t, "in its place", b.Yank('a', rows("x")), api.OK)
	is(t, "behind it", b.Yank('A', longReg(api.ByLines, most-2, 10)), api.OK)
	is(t, "one too many", b.Yank('A', rows("n")), api.ErrLong)
	r, _ := b.Get(0)
	if len(r.Text) != most {
		t.Fatal(len(r.Text))
	}
}
