package register_test

import (
	"testing"

	"copyist/api"
	"copyist/register"
)

// TestClosed, P1102: a text by lines gets a 10, where no break stands at its end; one by characters never does.
func TestClosed(t *testing.T) {
	for _, c := range []struct{ in, out string }{
		{"", "n"}, {"n", "n"}, {"r", "r"}, {"rn", "rn"}, {"nr", "nr"},
		{"x", "xn"}, {"xn", "xn"}, {"xr", "xr"}, {"xrn", "xrn"}, {"xnr", "xnr"},
		{"xny", "xnyn"}, {"xry", "xryn"}, {"nx", "nxn"}, {"rnx", "rnxn"}, {"nn", "nn"}, {"rr", "rr"},
	} {
		b := register.New()
		b.Yank('a', rows(c.in))
		b.Yank('B', rows(c.in))
		b.Yank(0, rows(c.in))
		b.Delete(0, rows(c.in))
		b.Delete('c', rows(c.in))
		holds(t, b, rows(c.out), 'a', 'b', '0', '1', 'c')
		if c.in == "" {
			continue
		}
		b = register.New()
		b.Yank('a', chars(c.in))
		b.Yank('B', chars(c.in))
		b.Yank(0, chars(c.in))
		b.Delete('c', chars(c.in))
		b.Set('d', spell(c.in))
		holds(t, b, chars(c.in), 'a', 'b', '0', 'c', 'd')
	}
	odd := []int{-1, -256, 0, 0xD800, 1 << 62, -1 << 63, 10 + 1<<32, 13 - 1<<32}
	b := register.New()
	b.Yank('a', api.Reg{Kind: api.ByLines, Text: odd})
	holds(t, b, api.Reg{Kind: api.ByLines, Text: append(odd[:len(odd):len(odd)], 10)}, 'a')
	b.Delete(0, api.Reg{Text: odd})
	holds(t, b, api.Reg{Text: odd}, '-')
}

// TestAppend, P1102: each pairing of kinds, with each break.
func TestAppend(t *testing.T) {
	for _, c := range []struct{ own, w, out api.Reg }{
		{chars("a"), chars("b"), chars("ab")},
		{chars("an"), chars("b"), chars("anb")},
		{chars("n"), chars("n"), chars("nn")},
		{chars("a"), chars(""), chars("a")},
		{rows("a"), chars(""), rows("an")},
		{chars("a"), rows("b"), rows("anbn")},
		{chars("a"), rows("bn"), rows("anbn")},
		{chars("a"), rows("br"), rows("arbr")},
		{chars("a"), rows("brn"), rows("arnbrn")},
		{chars("a"), rows("bnr"), rows("arbnr")},
		{chars("a"), rows("crnb"), rows("ancrnbn")},
		{chars("a"), rows(""), rows("ann")},
		{chars("a"), rows("r"), rows("arr")},
		{chars("a"), rows("rn"), rows("arnrn")},
		{chars("an"), rows("br"), rows("anrbr")},
		{chars("ar"), rows("n"), rows("arnn")},
		{rows("a"), chars("b"), rows("anbn")},
		{rows("ar"), chars("b"), rows("arbr")},
		{rows("arn"), chars("b"), rows("arnbrn")},
		{rows("anr"), chars("b"), rows("anrbr")},
		{rows("a"), chars("bn"), rows("anbnn")},
		{rows("ar"), chars("brn"), rows("arbrnr")},
		{rows("arn"), chars("n"), rows("arnnrn")},
		{rows(""), chars("b"), rows("nbn")},
		{rows("rn"), chars("b"), rows("rnbrn")},
		{rows("r"), chars("b"), rows("rbr")},
		{rows("a"), rows("b"), rows("anbn")},
		{rows("ar"), rows("b"), rows("arbn")},
		{rows("arn"), rows("br"), rows("arnbr")},
		{rows("ar"), rows(""), rows("arn")},
		{rows("ar"), rows("n"), rows("arn")},
		{rows(""), rows(""), rows("nn")},
	} {
		for _, take := range []func(*register.Bank, int, api.Reg) api.Errno{(*register.Bank).Yank, (*register.Bank).Delete} {
			b := register.New()
			b.Yank('q', c.own)
			is(t, "appended", take(b, 'Q', c.w), api.OK)
			holds(t, b, c.out, 'q', 'Q', 0)
			named(t, b, 'q')
		}
		if c.w.Kind == api.ByChars {
			b := register.New()
			b.Yank('q', c.own)
			b.Yank('z', chars("z"))
			is(t, "Set", b.Set('Q', c.w.Text), api.OK)
			holds(t, b, c.out, 'q', 'Q')
			holds(t, b, chars("z"), 0)
		}
	}
	b := register.New()
	b.Yank('q', rows("ar"))
	b.Yank('Q', rows("n")) // now the last two atoms are 13 10: one break, though they came apart
	b.Yank('Q', chars("b"))
	holds(t, b, rows("arnbrn"), 'q')
}

// TestReplaced: what a small name is given stands in the place of all that was there, of either kind.
func TestReplaced(t *testing.T) {
	for _, name := range spell1("az0159-") {
		b := register.New()
		b.Yank(name, rows("old"))
		b.Yank(name, chars("x"))
		holds(t, b, chars("x"), name)
		b.Delete(name, rows("y"))
		holds(t, b, rows("yn"), name)
		b.Set(name, spell("z"))
		holds(t, b, chars("z"), name)
	}
}

// TestRing, P1104: what is deleted under no name moves it on, empty places too.
func TestRing(t *testing.T) {
	b := register.New()
	ring := []api.Reg{}
	for i := range 30 {
		in, out := rows(string(rune('a'+i%13))), rows(string(rune('a'+i%13))+"n")
		if i%3 == 1 {
			in, out = chars("r"+string(rune('A'+i))), chars("r"+string(rune('A'+i)))
		}
		is(t, "Delete", b.Delete(i%2*'"', in), api.OK)
		ring = append([]api.Reg{out}, ring...)
		for k := range min(len(ring), 9) {
			holds(t, b, ring[k], '1'+k)
		}
		holds(t, b, out, 0)
		if i < 8 {
			empty(t, b, '2'+i)
		}
		empty(t, b, '0', '-')
	}
}

// TestRingGaps: an empty place goes on like the others, and what stood where it comes is gone.
func TestRingGaps(t *testing.T) {
	for gaps := range 1 << 9 {
		b := register.New()
		for k := range 9 {
			if gaps>>k&1 == 0 {
				b.Yank('1'+k, rows(string(rune('a'+k))))
			}
		}
		for round := 1; round <= 10; round++ {
			b.Delete(0, chars("n"))
			for k := range 9 {
				switch was := k - round; {
				case was < 0:
					holds(t, b, chars("n"), '1'+k)
				case gaps>>was&1 == 0:
					holds(t, b, rows(string(rune('a'+was))+"n"), '1'+k)
				default:
					empty(t, b, '1'+k)
				}
			}
		}
	}
}

// TestRingStays: only what is deleted under no name, with a break or by lines, moves it.
func TestRingStays(t *testing.T) {
	b := register.New()
	b.Delete(0, rows("a"))
	b.Delete('1', rows("b"))
	b.Delete('a', rows("c"))
	b.Delete('Z', rows("d"))
	b.Delete('-', rows("e"))
	b.Delete('0', rows("f"))
	b.Delete('_', rows("g"))
	b.Yank(0, rows("h"))
	b.Delete(0, chars("i"))
	b.Delete(0, chars(""))
	holds(t, b, rows("bn"), '1')
	b.Set('1', spell("jnk"))
	holds(t, b, chars("jnk"), '1')
	holds(t, b, chars("i"), '-', 0)
	empty(t, b, '2', '3', '4', '5', '6', '7', '8', '9')
}

// TestDash: less than a line goes to -, which holds it as it is; a break anywhere in it is enough for the ring.
func TestDash(t *testing.T) {
	for _, s := range []string{"x", "xyz", " \t", "\u2028", "\u0085"} {
		b := register.New()
		b.Delete(0, chars(s))
		holds(t, b, chars(s), '-', 0)
		named(t, b, '-')
	}
	for _, s := range []string{"n", "r", "nx", "xr", "xny", "xrny", "xyzn"} {
		b := register.New()
		b.Delete(0, chars("w"))
		b.Delete(0, chars(s))
		holds(t, b, chars(s), '1', 0)
		holds(t, b, chars("w"), '-')
	}
}
