package operate_test

import (
	"slices"
	"testing"

	"copyist/api"
)

// texts are all lists of at most n of some atoms.
func texts(n int, atoms ...int) [][]int {
	all := [][]int{{}}
	last := all
	for range n {
		var next [][]int
		for _, list := range last {
			for _, a := range atoms {
				next = append(next, append(slices.Clone(list), a))
			}
		}
		all, last = append(all, next...), next
	}
	return all
}

// short goes through all short texts, and all cursors on them and around; each time with another break to be typed.
func short(t *testing.T, n int, atoms []int, do func(func() *pair, int)) {
	t.Helper()
	turn := 0
	for _, text := range texts(n, atoms...) {
		b := bytesOf(t, api.UTF8, text)
		for at := -1; at <= len(text)+1; at++ {
			turn++
			native := turn % 5 // 0 and 4 are none of the three
			do(func() *pair { return open(t, api.UTF8, b, 1000).native(native).at(at).marked() }, len(text))
		}
	}
}

// each does each call to a desk of its own, and undoes it.
func each(start func() *pair, acts ...act) {
	for _, a := range acts {
		x := start()
		x.t.Helper()
		undo, _ := x.d.Book.Depth()
		x.try(a)
		if now, _ := x.d.Book.Depth(); now > undo {
			x.undo()
		}
	}
}

// TestShortSpans: what is taken, and what is turned: every span of every short text.
func TestShortSpans(t *testing.T) {
	short(t, 3, []int{'a', ' ', 10, 13, 0x301}, func(start func() *pair, n int) {
		for _, s := range spans(n) {
			each(start, yank(0, s), remove(0, s), change('b', s), turn(api.VFlip, s))
		}
	})
}

// TestShortRows: lines without a last break, empty ones, one behind the other.
func TestShortRows(t *testing.T) {
	short(t, 5, []int{'a', 10, 13}, func(start func() *pair, n int) {
		each(start, remove(0, rows(0, n/2)), remove(0, rows(n/2, n)), change(0, rows(n/2, n)), yank('q', rows(n, n)))
	})
}

// TestShortShift: lines of blanks and tabs.
func TestShortShift(t *testing.T) {
	short(t, 4, []int{'a', ' ', 9, 10, 13}, func(start func() *pair, n int) {
		each(start, shift(chars(0, n), -1), shift(rows(n/2, n), -2), shift(rows(0, n), 2), shift(chars(n, n), 1))
	})
}

// TestShortJoin: all lines of each short text, and all but one, bare and not.
func TestShortJoin(t *testing.T) {
	short(t, 5, []int{'a', ' ', ')', 10, 13}, func(start func() *pair, n int) {
		if start().d.At != n/2 {
			return // the cursor has no say in it
		}
		last := len(rowsOf(start().p.atoms())) - 1
		each(start, join(0, last, false), join(0, last, true), join(1, last, false), join(0, last-1, true))
	})
	short(t, 4, []int{'a', ' ', 0x301, 0xA0, 10}, func(start func() *pair, n int) {
		last := len(rowsOf(start().p.atoms())) - 1
		each(start, join(0, last, false))
	})
}

// TestShortTyping: typed text at every offset, and line ends over clusters.
func TestShortTyping(t *testing.T) {
	short(t, 4, []int{'a', 0x301, 10, 13}, func(start func() *pair, n int) {
		each(start, typing('z'), typing(10), typing(10, 10), typing('z', 10), typing(13, 10), typing(10, 0x301), typing(10, 13),
			over(1, 10), over(2, 10), over(1, 'z'), over(2, 'z'), over(1, 13), over(2, 0x301), over(3, 'z'))
	})
}

// TestShortPut: texts of both kinds, put into every short text.
func TestShortPut(t *testing.T) {
	regs := []api.Reg{byChars("z"), byChars("\u0301"), byChars("\n"), byChars("\rz"), byLines(" z\n"), byLines("\n"), byLines("\r"), byLines("\r\n"), byLines("\nz\r\n"), byLines("\n\r")}
	i := 0
	short(t, 3, []int{'a', 0x301, 10, 13}, func(start func() *pair, n int) {
		for _, r := range regs {
			i++
			full := func() *pair { return start().bank('a', r) }
			each(full, put('a', false, 1), put('a', true, 1), put(0, i%2 == 0, 2))
		}
	})
}
