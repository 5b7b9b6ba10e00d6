package object_test

import (
	"math"
	"slices"
	"testing"

	"copyist/api"
	"copyist/object"
	"copyist/piece"
)

// tell is all that the calls answer of a text, at each offset, for some counts and arguments.
func tell(x *piece.Text) []answer {
	var out []answer
	at := []int{math.MinInt, math.MaxInt}
	for k := -1; k <= x.Len()+1; k++ {
		at = append(at, k)
	}
	for _, at := range at {
		for kind := 59; kind < 73; kind++ {
			for _, arg := range append([]int{0}, argsOf(kind)...) {
				m := mv(kind, (kind+at)&3, arg)
				for _, f := range []call{object.Words, object.Quotes, object.Blocks, object.Paras, object.Take} {
					span, e := f(x, at, m)
					out = append(out, answer{span, e})
				}
			}
		}
	}
	return out
}

func same(a, b []answer) bool { return slices.Equal(a, b) }

const page = "ab (c)\r\n\n d.\" e'\"\r{\n f\n}"

// P901: no call changes the text: its atoms, its tags, its bytes, what is kept of it, and what is answered a second time.
func TestNothingIsChanged(t *testing.T) {
	t.Parallel()
	for _, enc := range encodings {
		x := load(t, enc, spell(page))
		if e := x.Change([]api.Edit{{From: 1, To: 1, Put: []int{'x', 10, 13, '('}}, {From: 4, To: 5}, {From: 9, To: 9, Put: []int{10}}}); e != api.OK {
			t.Fatal(e)
		}
		n := x.Len()
		atoms, tags, b, size, s := x.Atoms(0, n), x.Tags(0, n), x.Bytes(), x.Size(), x.Snap()
		first := tell(x)
		if !slices.Equal(x.Atoms(0, n+9), atoms) || !slices.Equal(x.Tags(0, n+9), tags) || !slices.Equal(x.Bytes(), b) || x.Enc() != enc || x.Len() != n || x.Size() != size {
			t.Errorf("encoding %d: the text has changed", enc)
		}
		if !same(tell(x), first) {
			t.Errorf("encoding %d: asked again it answers otherwise", enc)
		}
		if e := x.Change([]api.Edit{{From: 0, To: n}}); e != api.OK || !same(tell(x), tell(load(t, enc, nil))) {
			t.Errorf("encoding %d: emptied it does not answer as an empty text", enc)
		}
		if e := x.Back(s); e != api.OK || !same(tell(x), first) || !slices.Equal(x.Tags(0, n), tags) {
			t.Errorf("encoding %d: taken back it answers otherwise", enc)
		}
	}
}

// P901: what is answered hangs on the atoms: not on their bytes, not on the way they came there.
func TestAnswersHangOnTheAtoms(t *testing.T) {
	t.Parallel()
	for _, s := range []string{"", "\n", page, "a b\r\r\n{[}]\n\t\n", "..  \n  ..\n", "(\n\n)`a``"} {
		atoms := spell(s)
		want := tell(load(t, api.UTF8, atoms))
		for _, enc := range encodings {
			if !same(tell(load(t, enc, atoms)), want) || !same(tell(typed(t, enc, atoms)), want) {
				t.Errorf("encoding %d, %q: it answers otherwise than in UTF8", enc, s)
			}
		}
	}
	atoms := []int{'e', 0x301, 10, 0x1F1E6, 0x1F1E7, ' ', 0x301, 13, 10, '(', 0x20AC, ')', '"', 0x301}
	want := tell(load(t, api.UTF8, atoms))
	for _, enc := range wide {
		if !same(tell(load(t, enc, atoms)), want) || !same(tell(typed(t, enc, atoms)), want) {
			t.Errorf("encoding %d: it answers otherwise than in UTF8", enc)
		}
	}
}

// Each change is seen at once: a CR and an LF that come together, an accent that comes to a bracket, a fellow that goes.
func TestAnswersOfNow(t *testing.T) {
	t.Parallel()
	x := load(t, api.UTF8, spell("(\rb\n)c\"d\""))
	for i, edit := range []api.Edit{{From: 2, To: 3}, {From: 2, To: 2, Put: []int{'z'}}, {From: 1, To: 1, Put: []int{0x301}}, {From: 1, To: 2}, {From: 4, To: 5}, {From: 0, To: 0, Put: []int{10}}, {From: 0, To: 99}} {
		edit.To = min(edit.To, x.Len())
		if e := x.Change([]api.Edit{edit}); e != api.OK {
			t.Fatal(e)
		}
		if !same(tell(x), tell(load(t, api.UTF8, x.Atoms(0, x.Len())))) {
			t.Errorf("behind the change %d it answers otherwise than a text loaded so", i)
		}
	}
}

// Two texts have nothing in common.
func TestTwoTexts(t *testing.T) {
	t.Parallel()
	x, y := load(t, api.UTF8, spell(page)), load(t, api.UTF8, spell(page))
	want := tell(y)
	x.Change([]api.Edit{{From: 0, To: 7, Put: []int{13, 10, ' '}}})
	tell(x)
	if !same(tell(y), want) {
		t.Error("a change of one text is seen in another")
	}
}

// P911: Take answers as the call that knows the kind.
func TestTake(t *testing.T) {
	t.Parallel()
	for _, enc := range encodings {
		x := load(t, enc, spell(page))
		for at := -1; at <= x.Len()+1; at++ {
			for _, c := range calls {
				for _, kind := range c.kinds {
					for _, arg := range append([]int{0}, argsOf(kind)...) {
						for _, k := range []int{-1, 0, 1, 2, math.MaxInt} {
							want, f := c.call(x, at, mv(kind, k, arg))
							if got, e := object.Take(x, at, mv(kind, k, arg)); got != want || e != f {
								t.Errorf("Take at %d, %d %d %d: %+v, %d, but %s: %+v, %d", at, kind, k, arg, got, e, c.name, want, f)
							}
						}
					}
				}
			}
			for _, kind := range noKinds {
				if got, e := object.Take(x, at, mv(kind, 0, 40)); got != (api.Span{}) || e != api.ErrArg {
					t.Errorf("Take at %d of the kind %d: %+v, %d", at, kind, got, e)
				}
			}
		}
	}
}
