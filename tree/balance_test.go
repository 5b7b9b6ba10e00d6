package tree_test

import (
	"math/bits"
	"slices"
	"testing"

	"copyist/tree"
)

// TestHeightOfMany: P408 at every size that is made at once, and the greatest text's size.
func TestHeightOfMany(t *testing.T) {
	for n := range 600 {
		balanced(t, runsOf(make([]tree.Run, n)...).Height(), n)
	}
	for _, n := range []int{65535, 65536, 70000} {
		balanced(t, runsOf(make([]tree.Run, n)...).Height(), n)
	}
	for n, most := range map[int]int{1: 3, 2: 6, 3: 6, 4: 9, 100: 21} {
		if h := runsOf(make([]tree.Run, n)...).Height(); h < 1 || h > most {
			t.Errorf("Height() = %d of %d things; want 1 to %d", h, n, most)
		}
	}
}

// TestHeightBehindReplaces: P408: things come and go at one place, at both ends, in turns, anywhere.
func TestHeightBehindReplaces(t *testing.T) {
	d := dice(3)
	places := map[string]func(i, size int) int{
		"at the beginning":  func(_, _ int) int { return 0 },
		"at the end":        func(_, size int) int { return size },
		"in the midst":      func(_, size int) int { return size / 2 },
		"at a third":        func(_, size int) int { return size / 3 },
		"at both ends":      func(i, size int) int { return i % 2 * size },
		"everywhere":        func(_, size int) int { return d.below(size + 1) },
		"from end to end":   func(i, size int) int { return i * 37 % (size + 1) },
		"behind the second": func(_, size int) int { return min(size, 2) },
	}
	for name, place := range places {
		t.Run(name, func(t *testing.T) {
			var s runs
			var list []tree.Run
			for i := range 3000 {
				at := place(i, len(list))
				s = replaced(t, s, at, at, tree.Run{i, 1})
				list = slices.Insert(list, at, tree.Run{i, 1})
				balanced(t, s.Height(), len(list))
			}
			holds(t, s, list)
			for i := 0; len(list) > 0; i++ {
				at := place(i, len(list)-1)
				s = replaced(t, s, at, at+1)
				list = slices.Delete(list, at, at+1)
				balanced(t, s.Height(), len(list))
				if len(list)%500 == 0 {
					holds(t, s, list)
				}
			}
		})
	}
}

// TestHeightBehindStretches: P408: whole stretches come and go, as long as the tree itself or much shorter.
func TestHeightBehindStretches(t *testing.T) {
	d := dice(11)
	var s runs
	var list []tree.Run
	for i := range 1500 {
		from := d.below(len(list) + 1)
		to := from + d.below(len(list)-from+1)
		if i%3 > 0 {
			to = min(to, from+d.below(9))
		}
		items := make([]tree.Run, d.below(1<<d.below(9)))
		for j := range items {
			items[j] = tree.Run{i, j}
		}
		s = replaced(t, s, from, to, items...)
		list = slices.Replace(list, from, to, items...)
		balanced(t, s.Height(), len(list))
		if i%50 == 0 {
			holds(t, s, list)
		}
	}
	holds(t, s, list)
}

// tally counts how often sums are added and asked, since that tells how many nodes a call has met.
type tally struct{ n int }

var work int

func (a tally) Add(b tally) tally {
	work++
	return tally{a.n + b.n}
}

func (a tally) Key(int) int {
	work++
	return a.n
}

type mark struct{}

func (mark) Measure() tally {
	work++
	return tally{1}
}

// TestFewNodes: P408: what a call meets grows with the height, and with the items, not with the size.
func TestFewNodes(t *testing.T) {
	for _, size := range []int{1, 10, 1000, 65536} {
		s := tree.Of[mark, tally](make([]mark, size)...)
		steps := bits.Len(uint(size))
		d := dice(5)
		for range 200 {
			i, j := d.below(size+1), d.below(size+1)
			within(t, "Upto", 20*steps, func() { s.Upto(i) })
			within(t, "Find", 20*steps, func() { s.Find(0, i+1) })
			within(t, "At", 20*steps, func() { s.At(i) })
			within(t, "Sum", 20, func() { s.Sum() })
			within(t, "Replace", 100*steps, func() { s.Replace(min(i, j), max(i, j)) })
			within(t, "Replace by items", 100*steps+20*30, func() { s.Replace(i, i, make([]mark, 30)...) })
		}
	}
}

func within(t *testing.T, name string, most int, call func()) {
	t.Helper()
	work = 0
	if call(); work > most {
		t.Errorf("%s: %d steps; want %d at most", name, work, most)
	}
}

// TestItemsFewNodes: P407, P408: a range that is left at its first thing does not go through the tree.
func TestItemsFewNodes(t *testing.T) {
	s := runsOf(make([]tree.Run, 65536)...)
	allocs := testing.AllocsPerRun(10, func() {
		for range s.Items(40000) {
			break
		}
	})
	if allocs > 100 {
		t.Errorf("%v pieces of memory", allocs)
	}
}
