package tree_test

import (
	"iter"
	"math"
	"slices"
	"testing"

	"copyist/api"
	"copyist/tree"
)

// TestExamples: the chapter's table.
func TestExamples(t *testing.T) {
	s := runsOf(tree.Run{1, 3}, tree.Run{2, 2}, tree.Run{2, 5}, tree.Run{7, 0}, tree.Run{2, -4}, tree.Run{1, 1})
	if s.Size() != 6 || s.Sum() != (tree.Runs{11, 3, 1, 1}) {
		t.Errorf("Size %d, Sum %v", s.Size(), s.Sum())
	}
	for i, want := range map[int]tree.Runs{2: {5, 2, 1, 2}, 3: {10, 2, 1, 2}, 5: {10, 2, 1, 2}, -1: {}, 99: {11, 3, 1, 1}} {
		if got := s.Upto(i); got != want {
			t.Errorf("Upto(%d) = %v; want %v", i, got, want)
		}
	}
	if x, ok := s.At(3); x != (tree.Run{7, 0}) || !ok {
		t.Errorf("At(3) = %v, %v", x, ok)
	}
	for _, c := range [][3]int{{0, 4, 2}, {0, 5, 2}, {0, 6, 3}, {0, 11, 6}, {0, 12, 7}, {1, 2, 2}, {1, 3, 6}, {1, 4, 7}, {0, 0, 0}, {1, -9, 0}, {2, 0, 0}, {2, 1, 7}} {
		if got := s.Find(c[0], c[1]); got != c[2] {
			t.Errorf("Find(%d, %d) = %d; want %d", c[0], c[1], got, c[2])
		}
	}
	holds(t, replaced(t, s, 1, 3), []tree.Run{{1, 3}, {7, 0}, {2, -4}, {1, 1}})
	if got := replaced(t, s, 1, 3).Sum(); got != (tree.Runs{4, 1, 1, 1}) {
		t.Errorf("Sum behind Replace(1, 3) = %v", got)
	}
	if u := replaced(t, s, 6, 6, tree.Run{1, 2}); u.Size() != 7 || u.Sum() != (tree.Runs{13, 3, 1, 1}) {
		t.Errorf("Replace(6, 6): Size %d, Sum %v", u.Size(), u.Sum())
	}
	if got := slices.Collect(s.Items(4)); !slices.Equal(got, []tree.Run{{2, -4}, {1, 1}}) {
		t.Errorf("Items(4) = %v", got)
	}
}

// TestMaking: P402, P403, P404 at every size up to 200, with sums that do not commute.
func TestMaking(t *testing.T) {
	var d dice
	for n := range 200 {
		texts := d.texts(n)
		holds(t, wordsOf(texts...), syllables(texts))
	}
	holds(t, wordsOf("b", "a"), syllables([]string{"b", "a"}))
	if got := wordsOf("b", "a", "c").Upto(2); got != "ba" {
		t.Errorf("the first two add up to %q", got)
	}
}

// TestNotKept: P402, P405, rule 3: a list is neither kept nor written into, its spare room neither.
func TestNotKept(t *testing.T) {
	var items []tree.Run
	for i := range 40 {
		items = append(items, tree.Run{i, i + 1})
	}
	want := slices.Clone(items)
	s := runsOf(items[:20]...)
	u := replaced(t, s, 5, 15, items[10:30]...)
	if !slices.Equal(items, want) {
		t.Fatalf("the list is now %v", items)
	}
	clear(items)
	holds(t, s, want[:20])
	holds(t, u, slices.Concat(want[:5], want[10:30], want[15:20]))
}

// TestEmpty: the zero value, an empty list, nil, and what is left when all is taken away.
func TestEmpty(t *testing.T) {
	var zero words
	for name, s := range map[string]words{
		"zero":    zero,
		"of none": wordsOf(),
		"of nil":  tree.Of[syllable, spelled](nil...),
		"of []":   tree.Of[syllable, spelled]([]syllable{}...),
		"emptied": replaced(t, wordsOf("a", "b", "c"), 0, 3),
		"again":   replaced(t, zero, 0, 0),
	} {
		t.Run(name, func(t *testing.T) {
			holds(t, s, nil)
			finds(t, s, nil)
			if s.Height() != 0 || s.Find(0, 1) != 1 || s.Find(0, math.MinInt) != 0 {
				t.Errorf("Height %d, Find %d", s.Height(), s.Find(0, 1))
			}
			for range s.Items(0) {
				t.Error("a thing")
			}
			holds(t, replaced(t, s, 0, 0, syllable{"x"}, syllable{"y"}), syllables([]string{"x", "y"}))
			if u, e := s.Replace(0, 1); e != api.ErrArg || u != zero {
				t.Errorf("Replace(0, 1) = %v, %d", u, e)
			}
		})
	}
}

// TestFarNumbers: P403, P404, P406, P407 at ints that no tree has.
func TestFarNumbers(t *testing.T) {
	for _, n := range []int{1, 2, 3, 100} {
		s := wordsOf(new(dice).texts(n)...)
		for _, i := range []int{math.MinInt, math.MinInt + 1, -1 << 32, -n - 1, -n, -1, n, n + 1, 1 << 32, math.MaxInt - 1, math.MaxInt} {
			if x, ok := s.At(i); ok || x != (syllable{}) {
				t.Errorf("At(%d) = %v, %v", i, x, ok)
			}
			sum, rest := spelled(""), slices.Collect(s.Items(0))
			if i > 0 {
				sum, rest = s.Sum(), nil
			}
			if got := s.Upto(i); got != sum {
				t.Errorf("Upto(%d) = %q", i, got)
			}
			if got := slices.Collect(s.Items(i)); !slices.Equal(got, rest) {
				t.Errorf("Items(%d) = %v", i, got)
			}
			if got := s.Find(i, 1); i > 1 && got != n+1 {
				t.Errorf("Find(%d, 1) = %d", i, got)
			}
		}
		if s.Find(0, math.MinInt) != 0 || s.Find(0, math.MaxInt) != n+1 || s.Find(math.MaxInt, math.MaxInt) != n+1 || s.Find(math.MinInt, 0) != 0 {
			t.Errorf("Find in %d things", n)
		}
	}
}

// TestReplaceAll: P405: every stretch of every small tree, given for none, for one, for some things.
func TestReplaceAll(t *testing.T) {
	var d dice
	for n := range 24 {
		list := syllables(d.texts(n))
		s := tree.Of[syllable, spelled](list...)
		for from := 0; from <= n; from++ {
			for to := from; to <= n; to++ {
				for _, m := range []int{0, 1, 2, 9} {
					items := syllables(d.texts(m))
					holds(t, replaced(t, s, from, to, items...), slices.Concat(list[:from], items, list[to:]))
				}
			}
		}
		holds(t, s, list)
	}
}

// TestReplaceRefused: P405: what is no stretch of the tree.
func TestReplaceRefused(t *testing.T) {
	list := syllables([]string{"a", "b", "c", "d", "e", "f"})
	s := tree.Of[syllable, spelled](list...)
	for _, c := range [][2]int{{4, 3}, {0, 7}, {-1, 0}, {-1, -1}, {7, 7}, {6, 5}, {6, 7}, {-3, 9}, {7, 3}, {math.MinInt, math.MaxInt}, {math.MaxInt, math.MinInt}, {0, math.MaxInt}, {math.MinInt, 0}, {0, math.MinInt}} {
		for _, items := range [][]syllable{nil, {{"x"}}} {
			if u, e := s.Replace(c[0], c[1], items...); e != api.ErrArg || u != (words{}) {
				t.Errorf("Replace(%v) = %v, %d", c, slices.Collect(u.Items(0)), e)
			}
		}
	}
	holds(t, s, list)
}

// TestOlder: P405: every tree stays what it was, whatever comes of it; trees may branch off any older one.
func TestOlder(t *testing.T) {
	d := dice(7)
	type state struct {
		s    words
		list []syllable
	}
	states := []state{{}}
	for range 300 {
		was := states[d.below(len(states))]
		from := d.below(len(was.list) + 1)
		to := from + d.below(min(len(was.list)-from, 6)+1)
		items := syllables(d.texts(d.below(12)))
		u := replaced(t, was.s, from, to, items...)
		states = append(states, state{u, slices.Concat(was.list[:from], items, was.list[to:])})
	}
	for _, st := range states {
		holds(t, st.s, st.list)
		finds(t, st.s, st.list)
	}
}

// TestFinding: P406 at every number of every key, in trees of all small sizes and with things that add nothing.
func TestFinding(t *testing.T) {
	var d dice
	for n := range 60 {
		texts := d.texts(n)
		finds(t, wordsOf(texts...), syllables(texts))
		var list []tree.Run
		for range n {
			list = append(list, tree.Run{d.below(3), d.below(4) - 1})
		}
		finds(t, runsOf(list...), list)
		holds(t, runsOf(list...), list)
	}
	if got := wordsOf("", "", "a", "", "").Find(0, 1); got != 3 {
		t.Errorf("the first letter is found at %d", got)
	}
	if got := wordsOf("", "", "", "").Find(0, 1); got != 5 {
		t.Errorf("without letters one is found at %d", got)
	}
}

// TestItems: P407: from every number on, stopped at every thing.
func TestItems(t *testing.T) {
	for n := range 40 {
		var list []tree.Run
		for i := range n {
			list = append(list, tree.Run{i, 1})
		}
		s := runsOf(list...)
		for from := -2; from <= n+2; from++ {
			want := list[min(max(from, 0), n):]
			it := s.Items(from)
			for stop := range len(want) + 1 {
				if got := upto(it, stop); !slices.Equal(got, want[:stop]) {
					t.Fatalf("Items(%d), %d of them: %v", from, stop, got)
				}
			}
			if got := slices.Collect(it); !slices.Equal(got, want) {
				t.Fatalf("Items(%d) = %v", from, got)
			}
		}
	}
}

// upto takes the first n things and leaves the range at the last of them.
func upto[T any](it iter.Seq[T], n int) []T {
	var l []T
	if n == 0 {
		return l
	}
	for x := range it {
		if l = append(l, x); len(l) == n {
			break
		}
	}
	return l
}

// TestItemsStopped: P407: nothing more is handed out once the one who ranges has said so.
func TestItemsStopped(t *testing.T) {
	s := wordsOf(new(dice).texts(50)...)
	for stop := 1; stop <= 50; stop++ {
		calls := 0
		s.Items(0)(func(syllable) bool {
			calls++
			return calls != stop
		})
		if calls != stop {
			t.Errorf("stopped at %d things: %d handed out", stop, calls)
		}
	}
}

// TestItemsWithin: P407: ranged over within itself, and while the tree is given for others.
func TestItemsWithin(t *testing.T) {
	list := []tree.Run{{1, 1}, {2, 1}, {3, 1}, {4, 1}, {5, 1}}
	s := runsOf(list...)
	it := s.Items(1)
	var pairs, want [][2]int
	for a := range it {
		for b := range it {
			if b.Kind == 4 && a.Kind == 3 {
				break
			}
			pairs = append(pairs, [2]int{a.Kind, b.Kind})
		}
	}
	for a := 2; a <= 5; a++ {
		for b := 2; b <= 5 && !(a == 3 && b == 4); b++ {
			want = append(want, [2]int{a, b})
		}
	}
	if !slices.Equal(pairs, want) {
		t.Errorf("pairs %v; want %v", pairs, want)
	}
	u := s
	for range s.Items(0) {
		u = replaced(t, u, 0, 1)
		s = u
	}
	if u.Size() != 0 || !slices.Equal(slices.Collect(it), list[1:]) {
		t.Errorf("%d things are left, and of the older ones %v", u.Size(), slices.Collect(it))
	}
}

// TestPulled: P407: two ranges over one iterator, by turns.
func TestPulled(t *testing.T) {
	it := wordsOf("a", "b", "c").Items(0)
	one, stopOne := iter.Pull(it)
	two, stopTwo := iter.Pull(it)
	defer stopOne()
	defer stopTwo()
	for _, want := range []string{"a", "b", "c"} {
		x, _ := one()
		y, _ := two()
		if x.text != want || y.text != want {
			t.Errorf("%v and %v; want %s", x, y, want)
		}
	}
	if _, ok := one(); ok {
		t.Error("a fourth thing")
	}
}

// TestRuns: P409.
func TestRuns(t *testing.T) {
	for r, want := range map[tree.Run]tree.Runs{
		{5, 1}:             {1, 1, 5, 5},
		{0, 2}:             {2, 1, 0, 0},
		{-3, 7}:            {7, 1, -3, -3},
		{5, 0}:             {},
		{5, -1}:            {},
		{5, math.MinInt}:   {},
		{4, 1<<20 - 1}:     {1<<20 - 1, 1, 4, 4},
		{4, 1 << 20}:       {1 << 20, 1, 4, 4},
		{4, 1<<20 + 1}:     {1 << 20, 1, 4, 4},
		{math.MinInt, 1}:   {1, 1, math.MinInt, math.MinInt},
		{1, math.MaxInt}:   {1 << 20, 1, 1, 1},
		{math.MaxInt, 100}: {100, 1, math.MaxInt, math.MaxInt},
	} {
		if got := r.Measure(); got != want {
			t.Errorf("%v.Measure() = %v; want %v", r, got, want)
		}
	}
	a, b, zero := tree.Runs{5, 2, 1, 2}, tree.Runs{9, 3, 2, 1}, tree.Runs{}
	for _, c := range []struct{ s, o, want tree.Runs }{
		{a, b, tree.Runs{14, 4, 1, 1}},
		{b, a, tree.Runs{14, 4, 2, 2}},
		{a, a, tree.Runs{10, 4, 1, 2}},
		{a, zero, a},
		{zero, a, a},
		{zero, zero, zero},
	} {
		if got := c.s.Add(c.o); got != c.want {
			t.Errorf("%v.Add(%v) = %v; want %v", c.s, c.o, got, c.want)
		}
	}
	for k, want := range map[int]int{0: 5, 1: 2, 2: 0, 3: 0, -1: 0, math.MinInt: 0, math.MaxInt: 0} {
		if got := a.Key(k); got != want {
			t.Errorf("Key(%d) = %d; want %d", k, got, want)
		}
	}
}

// TestRunsMelt: P409 in a tree: neighbours of one kind melt over things that add nothing; kind 0 is a kind like every other.
func TestRunsMelt(t *testing.T) {
	for _, c := range []struct {
		list []tree.Run
		want tree.Runs
	}{
		{[]tree.Run{{0, 1}, {0, 2}}, tree.Runs{3, 1, 0, 0}},
		{[]tree.Run{{3, 1}, {4, 0}, {5, -1}, {3, 1}}, tree.Runs{2, 1, 3, 3}},
		{[]tree.Run{{4, 0}, {3, 1}, {4, 0}}, tree.Runs{1, 1, 3, 3}},
		{[]tree.Run{{4, 0}, {4, -1}}, tree.Runs{}},
		{[]tree.Run{{1, 1}, {2, 1}, {1, 1}}, tree.Runs{3, 3, 1, 1}},
	} {
		s := runsOf(c.list...)
		holds(t, s, c.list)
		if s.Sum() != c.want {
			t.Errorf("%v add up to %v; want %v", c.list, s.Sum(), c.want)
		}
	}
}
