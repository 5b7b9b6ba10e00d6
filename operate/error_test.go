package operate_test

import (
	"math"
	"slices"
	"testing"

	"copyist/api"
	"copyist/operate"
	"copyist/register"
)

// spanActs are the calls that take a span, all else being well.
func spanActs(s api.Span) []act {
	return []act{yank('a', s), remove('a', s), change('a', s), turn(api.VUpper, s), shift(s, 1), shift(s, -1)}
}

// used is a pair with a past: groups to undo and to do again, registers, marks, watched offsets, a strange cursor.
func used(t *testing.T, s string, at int) *pair {
	t.Helper()
	x := load(t, s).marked()
	x.does(typing('q'), api.OK).does(typing('w'), api.OK).does(remove(0, chars(0, 1)), api.OK)
	x.undo()
	x.does(yank('k', chars(0, 1)), api.OK)
	return x.at(at)
}

// TestSpansRefused, P1201: each call refuses the same spans, ahead of all else that is wrong.
func TestSpansRefused(t *testing.T) {
	for _, s := range []string{"", "ab", "a\r\nb\n"} {
		n := len(spell(s))
		for span, want := range badSpans(n) {
			for _, a := range append(spanActs(span), yank(63, span), remove(63, span), change('.', span)) {
				load(t, s).marked().does(a, want)
			}
		}
	}
	for span, want := range badSpans(5) { // what is said to go ahead of it
		used(t, "abc", -9).does(turn(0, span), api.ErrArg).does(shift(span, 0), api.ErrArg).does(turn(api.VFlip, span), want)
	}
}

// TestEmptySpans, P1205 to P1210: a span without atoms is refused by characters, but not by Change and Shift; by lines a line is there.
func TestEmptySpans(t *testing.T) {
	for at := range 5 {
		for _, a := range []act{yank(63, chars(at, at)), remove('.', chars(at, at)), turn(api.VLower, chars(at, at))} {
			used(t, "a\nb\n", 77).does(a, api.ErrNothing)
		}
		for _, a := range []act{yank('a', rows(at, at)), remove('a', rows(at, at)), turn(api.VLower, rows(at, at)), change(63, chars(at, at)), shift(chars(at, at), 1)} {
			used(t, "a\nb\n", 77).does(a, api.OK)
		}
	}
	load(t, "").does(remove(63, rows(0, 0)), api.ErrNothing).does(remove(63, chars(0, 0)), api.ErrNothing)
	load(t, "").does(turn(api.VLower, chars(0, 0)), api.ErrNothing).does(turn(api.VLower, rows(0, 0)), api.OK).sees("", 0)
	load(t, "").does(shift(rows(0, 0), 9), api.OK).does(shift(chars(0, 0), -9), api.OK).sees("", 0)
	x := load(t, "").does(change(0, rows(0, 0)), api.OK)
	x.sees("", 0)
	x.holds('1', byLines("\n"))
}

// TestRegistersRefused, P1201: the registers' errors are the bank's; nothing has changed then.
func TestRegistersRefused(t *testing.T) {
	for _, s := range []api.Span{chars(1, 3), rows(1, 3)} {
		for name, want := range map[int]api.Errno{63: api.ErrReg, -1: api.ErrReg, math.MinInt: api.ErrReg, 'a' + 1<<32: api.ErrReg, '.': api.ErrRead, ':': api.ErrRead, '/': api.ErrRead} {
			for _, a := range []act{yank(name, s), remove(name, s), change(name, s)} {
				used(t, "ab\ncd", -5).does(a, want)
			}
		}
	}
	for name, want := range map[int]api.Errno{63: api.ErrReg, math.MaxInt: api.ErrReg, '_': api.ErrEmpty, 'z': api.ErrEmpty, 'Z': api.ErrEmpty, '5': api.ErrEmpty, '.': api.ErrEmpty} {
		used(t, "ab\ncd", 99).does(put(name, false, 1), want).does(put(name, true, 0), api.ErrArg)
	}
	load(t, "ab").does(put(0, false, 1), api.ErrEmpty)
}

// TestRegisterFull, P1201: a register that would have too many atoms refuses; the text is as it was.
func TestRegisterFull(t *testing.T) {
	for _, kind := range []int{api.ByChars, api.ByLines} {
		full := api.Reg{Kind: kind, Text: slices.Repeat([]int{10}, api.MaxReg-1)}
		s := api.Span{From: 0, To: 1, Kind: kind}
		for _, a := range []act{yank('A', s), remove('A', s), change('A', s)} {
			x := load(t, "x").bank('a', full)
			if kind == api.ByLines {
				x.does(a, api.ErrLong)
				continue
			}
			x.does(a, api.OK)
			load(t, "xy").bank('a', full).does(a, api.OK).does(yank('A', chars(0, 1)), api.ErrLong)
		}
	}
}

// TestCountsRefused, P1208, P1210, P1213: counts below 1 and a shift by nothing, ahead of all else; counts above MaxCount are MaxCount.
func TestCountsRefused(t *testing.T) {
	for _, count := range []int{0, -1, -9999, math.MinInt} {
		used(t, "abc", 1).does(put(63, false, count), api.ErrArg).does(over(count, math.MaxInt), api.ErrArg)
	}
	for _, count := range []int{api.MaxCount, api.MaxCount + 1, 1 << 40, math.MaxInt} {
		x := open(t, api.UTF8, []byte("b"), api.MaxBytes).bank('a', byChars("a"))
		x.does(put('a', false, count), api.OK)
		if n := x.d.Book.Text().Len(); n != 1+api.MaxCount {
			t.Fatalf("Put(%d): %d atoms", count, n)
		}
		x.at(0).does(over(count, 'x'), api.OK).does(over(count, 'x'), api.ErrNothing) // the cursor is further on then
		x.at(2).does(over(count, 'x'), api.ErrNothing)
		y := open(t, api.UTF8, []byte("b"), api.MaxBytes).does(shift(chars(0, 1), count), api.OK)
		if n := y.d.Book.Text().Len(); n != 1+api.MaxCount {
			t.Fatalf("Shift(%d): %d atoms", count, n)
		}
		z := open(t, api.UTF8, slices.Repeat([]byte("\t"), 20000), api.MaxBytes).does(shift(chars(0, 1), -count), api.OK)
		if n := z.d.Book.Text().Len(); n != 20000-api.MaxCount {
			t.Fatalf("Shift(-%d): %d atoms", count, n)
		}
	}
	load(t, " b").does(shift(chars(0, 1), math.MinInt), api.OK).sees("b", 0)
}

// TestJoinRefused, P1211.
func TestJoinRefused(t *testing.T) {
	for _, bare := range []bool{true, false} {
		x := used(t, "a\nb\n", 9)
		for _, ends := range [][2]int{{-1, 0}, {-1, -1}, {1, 0}, {0, 2}, {2, 2}, {1, 2}, {math.MinInt, math.MaxInt}, {0, math.MaxInt}, {math.MaxInt, math.MaxInt}, {math.MaxInt, math.MinInt}} {
			x.does(join(ends[0], ends[1], bare), api.ErrRange)
		}
		x.does(join(0, 0, bare), api.ErrNothing).does(join(1, 1, bare), api.ErrNothing)
		load(t, "").does(join(0, 0, bare), api.ErrNothing).does(join(0, 1, bare), api.ErrRange)
	}
}

// unfit are ints that an encoding has no bytes for.
func unfit(enc int) []int {
	all := []int{-257, -1000, 0x110000, math.MinInt, math.MaxInt, 'a' + 1<<32, 10 + 1<<32}
	switch enc {
	case api.UTF8:
		return append(all, 0xD800, 0xDFFF, -1, -128, -1-10, -1-13)
	case api.Latin1:
		return append(all, 256, 0xD800, 0x1F600, -1, -256)
	}
	return all
}

// TestUnfit, P1201: what does not fit goes ahead of what is too long, and of clusters that are not there.
func TestUnfit(t *testing.T) {
	for _, enc := range encodings {
		b := bytesOf(t, enc, spell("ab\nc"))
		for _, bad := range unfit(enc) {
			for _, limit := range []int{len(b), 1000} { // with room, and without any
				x := open(t, enc, b, limit).marked().at(99)
				x.does(typing('x', bad), api.ErrFit).does(typing(bad), api.ErrFit)
				x.does(over(1, bad), api.ErrFit).does(over(9, bad), api.ErrFit)
				x.bank('c', api.Reg{Text: []int{'x', bad}}).bank('l', api.Reg{Kind: api.ByLines, Text: []int{bad, 10}})
				for _, name := range []int{'c', 'l'} {
					for _, up := range []bool{true, false} {
						x.does(put(name, up, 1), api.ErrFit).does(put(name, up, 9999), api.ErrFit).does(put(name, up, math.MaxInt), api.ErrFit)
					}
				}
			}
		}
	}
}

// TestFull, P1201: at the limit all is well, one byte past it is refused, and nothing has changed.
func TestFull(t *testing.T) {
	for _, enc := range encodings {
		text := spell("ab\nc")
		b := bytesOf(t, enc, text)
		unit := len(b) / len(text)
		for room := range 5 {
			start := func() *pair {
				x := open(t, enc, b, len(b)+room*unit+unit-1).marked().at(0)
				return x.bank('c', byChars("xy")).bank('l', byLines("x\n"))
			}
			full := func(need int) api.Errno {
				if need > room {
					return api.ErrFull
				}
				return api.OK
			}
			start().does(typing('x'), full(1))
			start().does(typing('x', 'y', 10), full(3))
			start().native(api.CRLF).does(typing(10, 10), full(4))
			start().does(put('c', false, 1), full(2))
			start().does(put('c', true, 2), full(4))
			start().does(put('c', true, 9999), api.ErrFull)
			start().does(put('l', true, 1), full(2))
			start().does(put('l', false, 2), full(4))
			start().at(9).does(put('l', false, 2), full(4))
			start().at(9).native(api.CRLF).does(put('l', false, 1), full(3))
			start().does(shift(rows(0, 4), 1), full(2))
			start().does(shift(rows(0, 4), 2), full(4))
			start().does(shift(rows(0, 4), 9999), api.ErrFull)
			start().does(over(2, 'x'), api.OK)
			start().native(api.CRLF).does(over(1, 10), full(1))
			start().at(3).native(api.CRLF).does(over(1, 10), full(1))
			if enc == api.UTF8 {
				start().does(over(1, 0x20AC), full(2)).does(turn(api.VUpper, rows(0, 4)), api.OK)
				start().does(over(2, 0xE9), full(2))
			}
		}
	}
}

// TestMostText, P1208: the text may be as long as MaxBytes; a Put that would be longer than memory has room for is refused at once.
func TestMostText(t *testing.T) {
	long := api.Reg{Text: slices.Repeat([]int{'x'}, api.MaxReg)}
	lines := api.Reg{Kind: api.ByLines, Text: slices.Repeat([]int{10}, api.MaxReg)}
	for _, up := range []bool{true, false} {
		for _, count := range []int{1, 9999, math.MaxInt} {
			d, _ := operate.New(api.UTF8, nil, api.MaxBytes, api.LF, 5)
			d.Bank.Yank('c', long)
			d.Bank.Yank('l', lines)
			for _, name := range []int{'c', 'l'} {
				if err := d.Put(name, up, count); err != api.ErrFull || d.Book.Text().Len() != 0 || d.Book.IsOpen() || d.Book.Dirty() {
					t.Fatalf("Put(%d, %v, %d): %d", name, up, count, err)
				}
			}
		}
	}
	for _, size := range []int{1, 7, 8, 64, 1 << 12, 1<<12 + 1, 1 << 14, 1<<14 + 1} {
		most := api.MaxBytes / size
		for count := most - 1; count <= most+3 && count < 9999; count++ {
			for _, kind := range []int{api.ByChars, api.ByLines} {
				for _, up := range []bool{true, false} {
					x := open(t, api.Latin1, nil, api.MaxBytes)
					x.bank('r', api.Reg{Kind: kind, Text: append(slices.Repeat([]int{'x'}, size-1), 10)})
					x.try(put('r', up, count))
				}
			}
		}
	}
}

// TestFieldsSet, P1203: whatever At is set to, a call takes it as the nearest place; a book and a bank of another desk do as well.
func TestFieldsSet(t *testing.T) {
	for _, at := range []int{math.MinInt, -1, math.MaxInt, 1 << 32} {
		for _, s := range []string{"", "ab", "a\n", "\r\n\n"} {
			n := len(spell(s))
			for _, a := range []act{typing('x'), typing(), put('k', false, 1), put('k', true, 2), put('l', false, 1), over(1, 'y'), yank('a', rows(0, n)), remove(0, rows(0, n)), change(0, rows(n, n)), shift(rows(0, n), 1), turn(api.VUpper, rows(0, n)), join(0, 1, false)} {
				x := load(t, s).at(at).bank('k', byChars("k")).bank('l', byLines("l\n"))
				x.try(a)
				if undo, _ := x.d.Book.Depth(); undo > 0 {
					x.undo()
				}
			}
		}
	}
	for _, native := range []int{0, -1, 4, math.MinInt, math.MaxInt, 2 + 1<<32} {
		load(t, "a").native(native).at(1).does(typing(10), api.OK).sees("a\n", 2)
		x := load(t, "a").native(native).does(yank(0, rows(0, 0)), api.OK)
		x.holds('0', byLines("a\n"))
	}
	x, y := load(t, "one"), load(t, "two")
	y.does(yank('a', chars(0, 3)), api.OK)
	x.d.Bank, x.p.bank = y.d.Bank.Copy(), y.p.bank.Copy()
	x.does(put('a', true, 1), api.OK).sees("twoone", 2)
	x.d.Book, x.p.book = y.d.Book, y.p.book
	x.does(remove(0, chars(0, 1)), api.OK).sees("wo", 0)
	x.d.Bank, x.p.bank = register.New(), register.New()
	x.does(put('a', true, 1), api.ErrEmpty)
}
