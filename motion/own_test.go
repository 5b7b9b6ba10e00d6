package motion_test

import (
	"math"
	"slices"
	"testing"

	"copyist/api"
	"copyist/motion"
	"copyist/piece"
)

// told is all that the calls answer of a text, at each offset and some counts.
type told struct {
	lands []api.Land
	spans []api.Span
	errs  []api.Errno
	ints  []int
}

func tell(x *piece.Text) told {
	var all told
	land := func(l api.Land, e api.Errno) { all.lands, all.errs = append(all.lands, l), append(all.errs, e) }
	span := func(s api.Span, e api.Errno) { all.spans, all.errs = append(all.spans, s), append(all.errs, e) }
	for _, at := range append([]int{math.MinInt, math.MaxInt}, places(x)...) {
		all.ints = append(all.ints, motion.Column(x, at), motion.Clamp(x, at, false), motion.Clamp(x, at, true), motion.Place(x, at, at, false), motion.Place(x, 1, at, true))
		for kind := range 72 {
			m := mv(kind, (kind+at)&3, 'a')
			land(motion.Chars(x, at, m, kind&1 == 0))
			land(motion.Rows(x, at, at, m))
			land(motion.Words(x, at, m, kind&1 == 0))
			land(motion.Paras(x, at, m))
			span(motion.Reach(x, at, m))
			span(motion.Between(x, at, kind, kind&3))
		}
	}
	return all
}

func places(x *piece.Text) []int {
	var out []int
	for at := -1; at <= x.Len()+1; at++ {
		out = append(out, at)
	}
	return out
}

func (a told) same(b told) bool {
	return slices.Equal(a.lands, b.lands) && slices.Equal(a.spans, b.spans) && slices.Equal(a.errs, b.errs) && slices.Equal(a.ints, b.ints)
}

// P810: no call changes the text: its atoms, its tags, its bytes, what is kept of it, and what is answered a second time.
func TestNothingIsChanged(t *testing.T) {
	t.Parallel()
	for _, enc := range encodings {
		x := load(t, enc, spell("ab (c)\r\n\n d.\r"))
		if e := x.Change([]api.Edit{{From: 1, To: 1, Put: []int{'x', 10, 13, '.'}}, {From: 4, To: 5}, {From: 9, To: 9, Put: []int{10}}}); e != api.OK {
			t.Fatal(e)
		}
		n := x.Len()
		atoms, tags, b, s := x.Atoms(0, n), x.Tags(0, n), x.Bytes(), x.Snap()
		first := tell(x)
		if !slices.Equal(x.Atoms(0, n+9), atoms) || !slices.Equal(x.Tags(0, n+9), tags) || !slices.Equal(x.Bytes(), b) || x.Enc() != enc || x.Len() != n {
			t.Errorf("encoding %d: the text has changed", enc)
		}
		if second := tell(x); !second.same(first) {
			t.Errorf("encoding %d: asked again it answers otherwise", enc)
		}
		if e := x.Change([]api.Edit{{From: 0, To: n}}); e != api.OK || !tell(x).same(tell(load(t, enc, nil))) {
			t.Errorf("encoding %d: emptied it does not answer as an empty text", enc)
		}
		if e := x.Back(s); e != api.OK || !tell(x).same(first) || !slices.Equal(x.Tags(0, n), tags) {
			t.Errorf("encoding %d: taken back it answers otherwise", enc)
		}
	}
}

// P810: what is answered hangs on the atoms: not on their bytes, not on the way they came there.
func TestAnswersHangOnTheAtoms(t *testing.T) {
	t.Parallel()
	for _, text := range []string{"", "\n", "ab\r\n c.d\n\n(x\n)", "a b\r\r\n{[}]\n\t\n", "..  \n  ..\n"} {
		atoms := spell(text)
		want := tell(load(t, api.UTF8, atoms))
		for _, enc := range encodings {
			if !tell(load(t, enc, atoms)).same(want) || !tell(typed(t, enc, atoms)).same(want) {
				t.Errorf("encoding %d, %q: it answers otherwise than in UTF8", enc, text)
			}
		}
	}
	atoms := []int{'e', 0x301, 10, 0x1F1E6, 0x1F1E7, ' ', 0x301, 13, 10, '(', 0x20AC, ')'}
	want := tell(load(t, api.UTF8, atoms))
	for _, enc := range wide {
		if !tell(load(t, enc, atoms)).same(want) || !tell(typed(t, enc, atoms)).same(want) {
			t.Errorf("encoding %d: it answers otherwise than in UTF8", enc)
		}
	}
}

// Each change is seen at once: a CR and an LF that come together, an accent that comes to a letter.
func TestAnswersOfNow(t *testing.T) {
	t.Parallel()
	x := load(t, api.UTF8, spell("a\rb\nc"))
	for i, edit := range []api.Edit{{From: 2, To: 3}, {From: 2, To: 2, Put: []int{'z'}}, {From: 1, To: 1, Put: []int{0x301}}, {From: 0, To: 1}, {From: 0, To: 0, Put: []int{10}}, {From: 0, To: x.Len()}} {
		edit.To = min(edit.To, x.Len())
		if e := x.Change([]api.Edit{edit}); e != api.OK {
			t.Fatal(e)
		}
		if !tell(x).same(tell(load(t, api.UTF8, x.Atoms(0, x.Len())))) {
			t.Errorf("behind the change %d it answers otherwise than a text loaded so", i)
		}
	}
}

// Two texts have nothing in common.
func TestTwoTexts(t *testing.T) {
	t.Parallel()
	x, y := load(t, api.UTF8, spell(page)), load(t, api.UTF8, spell(page))
	want := tell(y)
	x.Change([]api.Edit{{From: 0, To: 7, Put: []int{13, 10, ' '}}})
	tell(x)
	if !tell(y).same(want) {
		t.Error("a change of one text is seen in another")
	}
}
