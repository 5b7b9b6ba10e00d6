package tree_test

import (
	"slices"
	"testing"

	"copyist/api"
	"copyist/tree"
)

// odd is no Sum: the ways in which it breaks P401 hang on its mood. Only that the calls end is said of it, and what hangs on no sum.
type odd struct{ mood, n int }

func (a odd) Add(b odd) odd {
	switch a.mood + b.mood {
	case 1:
		return odd{b.mood, a.n - b.n}
	case 2:
		return odd{1, -a.n}
	case 3:
		return odd{a.mood, a.n*3 + 1}
	}
	return odd{3 - a.mood, b.n}
}

func (a odd) Key(k int) int { return (a.n*k + a.mood) % 5 * (k - a.n) }

type oddThing struct{ id int }

func (x oddThing) Measure() odd { return odd{x.id % 4, x.id*7 - 30} }

// TestBrokenSums: P401: the calls end, and the list itself is kept well, for it hangs on no sum.
func TestBrokenSums(t *testing.T) {
	d := dice(13)
	var s tree.Tree[oddThing, odd]
	var list []oddThing
	for i := range 400 {
		from := d.below(len(list) + 1)
		to := from + d.below(min(3, len(list)-from)+1)
		items := []oddThing{{i}, {i + 1000}, {-i}}[:d.below(4)]
		u, e := s.Replace(from, to, items...)
		if e != api.OK {
			t.Fatal(e)
		}
		s, list = u, slices.Replace(list, from, to, items...)
		balanced(t, s.Height(), len(list))
		if !slices.Equal(slices.Collect(s.Items(0)), list) {
			t.Fatalf("the list is %v", slices.Collect(s.Items(0)))
		}
		for k := -3; k < 4; k++ {
			s.Upto(d.below(len(list) + 1))
			s.Find(k, d.below(50)-5)
		}
		s.Sum()
	}
}

// length is a sum that is a plain int, and drawn is a thing that is an interface: the package knows of neither more than its calls.
type length int

func (a length) Add(b length) length { return a + b }
func (a length) Key(k int) int       { return int(a) * min(max(k, 0), 1) }

type drawn interface{ Measure() length }

type line struct{ n int }
type dot struct{}

func (l *line) Measure() length { return length(l.n) }
func (dot) Measure() length     { return 1 }

// TestOtherTypes: P401: things behind an interface, with sums that are numbers.
func TestOtherTypes(t *testing.T) {
	long := &line{5}
	s := tree.Of[drawn, length](dot{}, long, dot{})
	if s.Sum() != 7 || s.Upto(2) != 6 || s.Find(1, 2) != 2 || s.Find(1, 7) != 3 || s.Find(0, 1) != 4 {
		t.Errorf("Sum %d, Upto %d, Find %d", s.Sum(), s.Upto(2), s.Find(1, 2))
	}
	if x, ok := s.At(1); x != drawn(long) || !ok {
		t.Errorf("At(1) = %v, %v", x, ok)
	}
	if x, ok := s.At(3); x != nil || ok {
		t.Errorf("At(3) = %v, %v", x, ok)
	}
	u := replaced(t, s, 1, 2, drawn(dot{}), drawn(&line{0}))
	if got := slices.Collect(u.Items(1)); len(got) != 3 || got[0] != drawn(dot{}) || u.Sum() != 3 || s.Sum() != 7 {
		t.Errorf("Items(1) = %v, Sum %d", got, u.Sum())
	}
}
