package register_test

import (
	"slices"
	"testing"

	"copyist/api"
	"copyist/register"
)

// roomy is a text with spare room behind it, in which something stands.
func roomy(text []int) []int {
	room := append(slices.Clone(text), 77, 78, 79, 80)
	return room[:len(text)]
}

func untouched(t *testing.T, what string, text, want []int) {
	t.Helper()
	if !slices.Equal(text, want) || !slices.Equal(text[:len(text)+4][len(text):], []int{77, 78, 79, 80}) {
		t.Fatalf("%s: what was handed in is changed: %v", what, text[:len(text)+4])
	}
}

// spoil writes over a list and its spare room.
func spoil(text []int) {
	text = text[:cap(text)]
	for i := range text {
		text[i] = -999
	}
}

// TestHandedIn, P1109: a text that was handed in is not changed and not kept.
func TestHandedIn(t *testing.T) {
	for _, s := range []string{"x", "xn", "xyr", "krn", "abc def"} {
		for _, kind := range []int{api.ByChars, api.ByLines} {
			for _, name := range []int{'a', 'A', 'b', 'B', '0', '5', '-', 0, '"', '_'} {
				for _, take := range takers(kind) {
					b := register.New()
					b.Yank('a', rows("old"))
					text := roomy(spell(s))
					take(b, name, api.Reg{Kind: kind, Text: text})
					untouched(t, s, text, spell(s))
					was := look(b)
					spoil(text)
					stays(t, "a text that was handed in, written over", b, was)
				}
			}
		}
	}
}

// TestAnswered, P1109: what was answered is the caller's own, and stays as it was whatever the bank does.
func TestAnswered(t *testing.T) {
	b := some()
	b.Yank('A', chars("also"))
	for _, name := range append(b.Names(), 0, '"', 'A', 'M') {
		was := look(b)
		r, _ := b.Get(name)
		spoil(r.Text)
		stays(t, "an answered text, written over", b, was)
		r, _ = b.Get(name)
		_ = append(r.Text, 1, 2, 3)
		q, _ := b.Get(name)
		_ = append(q.Text, 4, 5, 6)
		if len(r.Text) > 0 && &r.Text[0] == &q.Text[0] {
			t.Fatal("two answers are one list")
		}
	}
	was := look(b)
	spoil(b.Names())
	stays(t, "answered names, written over", b, was)

	old, names := look(b), b.Names()
	for _, name := range writable() {
		b.Yank(name, rows("late"))
		b.Yank(name, chars("latest"))
		b.Delete(0, rows("deleted"))
		b.Set(name, nil)
	}
	if !old.equal(was) || !slices.Equal(names, was.names) {
		t.Fatal("an answer of long ago has changed")
	}
}

// TestAppendsApart: banks that hold the same text each put their own behind it.
func TestAppendsApart(t *testing.T) {
	b := register.New()
	b.Yank('a', api.Reg{Text: roomy(spell("old"))})
	for range 20 { // whatever room the text has behind it
		b.Yank('A', chars("x"))
		was, _ := b.Get('a')
		c, d := b.Copy(), b.Copy()
		c.Yank('A', chars("c"))
		d.Set('A', spell("d"))
		holds(t, b, was, 'a', 0)
		holds(t, c, api.Reg{Text: append(slices.Clone(was.Text), 'c')}, 'a', 0)
		holds(t, d, api.Reg{Text: append(slices.Clone(was.Text), 'd')}, 'a', 0)
	}
}

// TestCopy, P1107: the same registers, the same pointing, and nothing in common from then on.
func TestCopy(t *testing.T) {
	for _, b := range []*register.Bank{register.New(), some()} {
		was := look(b)
		c := b.Copy()
		stays(t, "the copied bank", b, was)
		stays(t, "the copy", c, was)
		for _, x := range [][2]*register.Bank{{b, c}, {c, b}} {
			one, other := x[0].Copy(), x[0]
			for _, name := range append(writable(), 0) {
				one.Yank(name, rows("late"))
				one.Delete(name, chars("latest"))
				one.Set(name, spell("last of all"))
			}
			one.Set(':', nil)
			one.Set('/', spell("pat"))
			stays(t, "the bank that was copied", other, was)
			stays(t, "the other bank", x[1], was)
			one = x[0].Copy()
			for _, name := range one.Names() {
				one.Set(name, nil)
			}
			named(t, one)
			empty(t, one, 0)
			stays(t, "the bank that was copied, its copy emptied", other, was)
		}
	}
	b := register.New()
	b.Yank('x', chars("x"))
	c := b.Copy()
	b.Set('x', spell("y")) // the pointing goes with the bank
	holds(t, b, chars("y"), 0)
	holds(t, c, chars("x"), 0)
	b.Yank('z', chars("z"))
	holds(t, c, chars("x"), 0)
	c.Set('x', nil)
	empty(t, c, 0)
	holds(t, b, chars("z"), 0)
	holds(t, b, chars("y"), 'x')
}

// TestNoTrace: nil and an empty list mean the same, and asking changes nothing.
func TestNoTrace(t *testing.T) {
	for _, kind := range []int{api.ByChars, api.ByLines} {
		for _, name := range []int{'a', 'A', 0} {
			b, c := some(), some()
			b.Yank(name, api.Reg{Kind: kind})
			b.Delete(name, api.Reg{Kind: kind})
			c.Yank(name, api.Reg{Kind: kind, Text: []int{}})
			c.Delete(name, api.Reg{Kind: kind, Text: []int{}})
			stays(t, "nil and an empty list", b, look(c))
		}
	}
	b := some()
	was := look(b)
	for name := -10; name < 140; name++ {
		b.Get(name)
		b.Copy()
		b.Names()
	}
	stays(t, "asking", b, was)
}
