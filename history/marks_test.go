package history_test

import (
	"math"
	"math/rand"
	"slices"
	"testing"

	"copyist/api"
)

// P709: which numbers are names: every one around those that are, and far off.
func TestMarkNames(t *testing.T) {
	p := load(t, api.UTF8, "abc", 2)
	numbers := []int{math.MinInt, -97, 97 + 1<<32, 97 + 256, math.MaxInt}
	for n := -2; n < 260; n++ {
		numbers = append(numbers, n)
	}
	count := 0
	for _, n := range numbers {
		want := api.ErrMark
		if isName(n) {
			want = api.OK
			count++
		}
		at, e := p.b.Mark(n)
		if at != 0 || e != api.ErrMark {
			t.Fatalf("Mark(%d), not set: %d, %d", n, at, e)
		}
		is(t, "SetMark", p.mark(n, count%4), want)
		at, e = p.b.Mark(n)
		if e != want || want == api.OK && at != count%4 || want != api.OK && at != 0 {
			t.Fatalf("Mark(%d): %d, %d", n, at, e)
		}
	}
	if count != 29 || len(p.b.Marks()) != 29 {
		t.Errorf("%d names, %v", count, p.b.Marks())
	}
}

// P709: ErrMark goes ahead of ErrRange; offsets at 0, at Len and just outside; a refused one leaves the mark where it was.
func TestSetMarkErrors(t *testing.T) {
	for _, enc := range encodings {
		p := load(t, enc, "abc", 2)
		p.mark('m', 2)
		for _, c := range []struct {
			name, at int
			want     api.Errno
		}{
			{96, 9, api.ErrMark}, {123, -1, api.ErrMark}, {65, 0, api.ErrMark}, {0, 0, api.ErrMark}, {40, 4, api.ErrMark}, {61, 1, api.ErrMark},
			{'m', -1, api.ErrRange}, {'m', 4, api.ErrRange}, {39, math.MinInt, api.ErrRange}, {60, math.MaxInt, api.ErrRange},
		} {
			is(t, "SetMark", p.mark(c.name, c.at), c.want)
			p.marks('m', 2)
		}
		is(t, "SetMark", p.mark('m', 0), api.OK)
		is(t, "SetMark", p.mark('m', 3), api.OK)
		p.marks('m', 3)
	}
}

// P709: rising names, in whatever order they were set.
func TestMarksAreToldInOrder(t *testing.T) {
	r := rand.New(rand.NewSource(709))
	for range 20 {
		p := load(t, api.UTF8, "abcdefgh", 2)
		var names []int
		for _, i := range r.Perm(128)[:90] {
			if p.mark(i, r.Intn(9)) == api.OK {
				names = append(names, i)
			}
		}
		slices.Sort(names)
		var told []int
		for _, m := range p.b.Marks() {
			told = append(told, m[0])
		}
		if !slices.Equal(told, names) {
			t.Fatalf("Marks %v; want %v", told, names)
		}
	}
}

// everywhere sets a mark and a watched offset at each offset of the text (up to 26 of them).
func (p *pair) everywhere() {
	p.t.Helper()
	var offsets []int
	for at := range p.text.Len() + 1 {
		p.mark('a'+at, at)
		offsets = append(offsets, at)
	}
	p.watch(offsets...)
}

// marked wants where the marks a, b, .. are.
func (p *pair) marked(want ...int) {
	p.t.Helper()
	var all []int
	for i, at := range want {
		all = append(all, 'a'+i, at)
	}
	p.marks(all...)
}

// P709, P710: the three cases, each with its ends, by one edit, its undo and its redo.
func TestOneEdit(t *testing.T) {
	for _, c := range []struct {
		edit                     api.Edit
		marks, watched           []int
		marksBack, watchedBack   []int
		marksAgain, watchedAgain []int
	}{
		{put(2, 4, ""), []int{0, 1, 2, 2, 2, 3}, []int{0, 1, -1, -1, 2, 3},
			[]int{0, 1, 4, 4, 4, 5}, []int{0, 1, -1, -1, 4, 5},
			[]int{0, 1, 2, 2, 2, 3}, []int{0, 1, -1, -1, 2, 3}},
		{put(2, 2, "xyz"), []int{0, 1, 5, 6, 7, 8}, []int{0, 1, 5, 6, 7, 8},
			[]int{0, 1, 2, 3, 4, 5}, []int{0, 1, 2, 3, 4, 5},
			[]int{0, 1, 5, 6, 7, 8}, []int{0, 1, 5, 6, 7, 8}},
		{put(1, 4, "x"), []int{0, 1, 2, 2, 2, 3}, []int{0, -1, -1, -1, 2, 3},
			[]int{0, 1, 4, 4, 4, 5}, []int{0, -1, -1, -1, 4, 5},
			[]int{0, 1, 2, 2, 2, 3}, []int{0, -1, -1, -1, 2, 3}},
		{put(1, 3, "xyz"), []int{0, 1, 2, 4, 5, 6}, []int{0, -1, -1, 4, 5, 6},
			[]int{0, 1, 2, 3, 4, 5}, []int{0, -1, -1, 3, 4, 5},
			[]int{0, 1, 2, 4, 5, 6}, []int{0, -1, -1, 4, 5, 6}},
		{put(0, 5, ""), []int{0, 0, 0, 0, 0, 0}, []int{-1, -1, -1, -1, -1, 0},
			[]int{5, 5, 5, 5, 5, 5}, []int{-1, -1, -1, -1, -1, 5},
			[]int{0, 0, 0, 0, 0, 0}, []int{-1, -1, -1, -1, -1, 0}},
		{put(5, 5, "x"), []int{0, 1, 2, 3, 4, 6}, []int{0, 1, 2, 3, 4, 6},
			[]int{0, 1, 2, 3, 4, 5}, []int{0, 1, 2, 3, 4, 5},
			[]int{0, 1, 2, 3, 4, 6}, []int{0, 1, 2, 3, 4, 6}},
		{put(3, 3, ""), []int{0, 1, 2, 3, 4, 5}, []int{0, 1, 2, 3, 4, 5}, nil, nil, nil, nil},
	} {
		for _, enc := range encodings {
			p := load(t, enc, "abcde", 3)
			p.everywhere()
			p.group(c.edit)
			p.marked(c.marks...)
			p.watched(c.watched...)
			if c.marksBack == nil {
				continue
			}
			p.undo()
			p.marked(c.marksBack...)
			p.watched(c.watchedBack...)
			p.redo()
			p.marked(c.marksAgain...)
			p.watched(c.watchedAgain...)
		}
	}
}

// Several edits of one Change: touching ones, several at one place, their undo and redo, written out.
func TestSeveralEdits(t *testing.T) {
	p := load(t, api.UTF8, "abcdef", 3)
	p.everywhere()
	p.group(put(1, 1, "xx"), put(1, 3, ""), put(3, 3, "y"), put(3, 5, "Z"), put(6, 6, "!"))
	p.told("axxyZf!", 0, -1, -1, -1, -1, 5, -1)
	p.marked(0, 3, 3, 4, 5, 5, 7)
	p.watched(0, -1, -1, -1, -1, 5, 7)
	p.undo()
	p.marked(0, 3, 3, 3, 5, 5, 6)
	p.watched(0, -1, -1, -1, -1, 5, 6)
	p.redo()
	p.marked(0, 4, 4, 4, 5, 5, 7)
	p.watched(0, -1, -1, -1, -1, 5, 7)
}

// Undo takes the Changes back the last one first, redo does the first one first: marks show the order.
func TestSeveralChanges(t *testing.T) {
	p := load(t, api.UTF8, "abcdef", 3)
	p.everywhere()
	p.begin(0)
	p.change(put(0, 3, ""))
	p.change(put(1, 1, "xyz"))
	p.change(put(0, 2, "q"))
	p.end(0)
	p.told("qyzef", -1, -1, -1, 4, 5)
	p.marked(0, 0, 0, 0, 3, 4, 5)
	p.watched(-1, -1, -1, -1, 3, 4, 5)
	p.undo()
	p.marked(3, 3, 3, 3, 4, 5, 6)
	p.watched(-1, -1, -1, -1, 4, 5, 6)
	p.mark('b', 1)
	p.watch(0, 3, 4, 6)
	p.redo()
	p.marked(0, 0, 0, 0, 3, 4, 5)
	p.watched(-1, -1, 3, 5)
}

// P709: marks may be set while a group is open, and then go with its other Changes, and with its undo as all do.
func TestMarksSetInAGroup(t *testing.T) {
	p := load(t, api.UTF8, "abc", 3)
	p.begin(0)
	p.change(put(0, 0, "xyz"))
	is(t, "SetMark", p.mark('a', 6), api.OK)
	is(t, "SetMark", p.mark('b', 7), api.ErrRange)
	is(t, "Watch", p.watch(1, 6), api.OK)
	is(t, "Watch", p.watch(7), api.ErrRange)
	p.change(put(6, 6, "!"))
	p.marks('a', 7)
	p.watched(1, 7)
	p.end(0)
	p.undo()
	p.marks('a', 3)
	p.watched(-1, 3)
	p.redo()
	p.marks('a', 7)
	p.watched(-1, 7)
}

// Marks that are set between undo and redo go with both.
func TestMarksSetBetween(t *testing.T) {
	p := load(t, api.UTF8, "abcd", 3)
	p.group(put(1, 3, "XYZ"))
	p.undo()
	p.mark('m', 2)
	p.watch(0, 1, 3)
	p.redo()
	p.marks('m', 2)
	p.watched(0, -1, 4)
	p.mark('n', 3)
	p.watch(1, 4, 5)
	p.undo()
	p.marks('m', 2, 'n', 3)
	p.watched(-1, 3, 4)
}

// P710: each error, duplicates, orders, none at all.
func TestWatch(t *testing.T) {
	for _, enc := range encodings {
		p := load(t, enc, "abc", 2)
		is(t, "Watch", p.watch(3, 0, 3, 1), api.OK)
		for _, wrong := range [][]int{{-1}, {4}, {0, 4}, {-1, 0}, {0, 1, 2, 3, math.MaxInt}, {math.MinInt, 0}, {1, 2, -1, 3}} {
			is(t, "Watch", p.watch(wrong...), api.ErrRange)
			p.watched(3, 0, 3, 1)
		}
		p.group(put(0, 0, "xx"))
		p.watched(5, 2, 5, 3)
		p.group(put(2, 4, ""))
		p.watched(3, -1, 3, -1)
		is(t, "Watch", p.watch(), api.OK)
		p.watched()
		p.undo()
		p.watched()
		is(t, "Watch", p.watch(0), api.OK)
		is(t, "Watch", p.b.Watch([]int{}), api.OK)
		p.watch(5)
		is(t, "Watch", p.b.Watch(nil), api.OK)
		if len(p.b.Watched()) != 0 {
			t.Errorf("Watched %v", p.b.Watched())
		}
	}
}

// P710: gone for good: by an edit, by an undo, by a redo.
func TestWatchedAreGoneForGood(t *testing.T) {
	p := load(t, api.UTF8, "abcd", 5)
	p.group(put(1, 2, "xyz"))
	p.watch(0, 1, 2, 3, 4, 6)
	p.undo()
	p.watched(0, -1, -1, -1, 2, 4)
	p.redo()
	p.watched(0, -1, -1, -1, 4, 6)
	p.undo()
	p.watch(0, 1, 2)
	p.redo()
	p.watched(0, -1, 4)
	p.undo()
	p.watched(0, -1, 2)
	for range 3 {
		p.redo()
		p.undo()
	}
	p.watched(0, -1, 2)
}

// All Changes of up to three edits on a short text, with marks and watched offsets everywhere, undone and done again.
func TestAllShortChanges(t *testing.T) {
	const n = 3
	var single []api.Edit
	for from := range n + 1 {
		for to := from; to <= n; to++ {
			for _, s := range []string{"", "x", "xyz"} {
				single = append(single, put(from, to, s))
			}
		}
	}
	turn := 0
	try := func(edits ...api.Edit) {
		turn++
		p := load(t, encodings[turn%4], "abc", 1)
		p.everywhere()
		p.begin(0)
		if p.change(edits...) != api.OK {
			return
		}
		p.end(0)
		p.undo()
		p.redo()
		p.undo()
	}
	for _, a := range single {
		try(a)
		for _, b := range single {
			if b.From < a.To {
				continue
			}
			try(a, b)
			for _, c := range single {
				if c.From >= b.To {
					try(a, b, c)
				}
			}
		}
	}
}

// A Change of as many edits as there may be, and many watched offsets: held against the rule, edit by edit, for some of them.
func TestManyEditsAndOffsets(t *testing.T) {
	b := make([]byte, 65536)
	p := open(t, api.Latin1, b, 65536, 2)
	offsets := make([]int, 65537)
	for i := range offsets {
		offsets[i] = i
	}
	is(t, "Watch", p.b.Watch(offsets), api.OK)
	p.b.SetMark('a', 30001)
	p.b.SetMark('b', 65536)
	var edits []api.Edit
	for i := 0; i < 65536; i += 2 {
		edits = append(edits, api.Edit{From: i, To: i + 1}) // every second atom goes
	}
	p.b.Begin(0)
	is(t, "Change", p.b.Change(edits), api.OK)
	p.b.End(0)
	for i, at := range p.b.Watched() {
		want := i / 2
		if i%2 == 0 && i < 65536 {
			want = -1
		}
		if at != want {
			t.Fatalf("watched %d: %d, want %d", i, at, want)
		}
	}
	if a, _ := p.b.Mark('a'); a != 15000 {
		t.Errorf("mark: %d", a)
	}
	if b, _ := p.b.Mark('b'); b != 32768 {
		t.Errorf("mark: %d", b)
	}
	p.b.Undo()
	for i, at := range p.b.Watched() {
		want := i
		if i%2 == 0 && i < 65536 {
			want = -1
		}
		if at != want {
			t.Fatalf("watched %d behind the undo: %d, want %d", i, at, want)
		}
	}
	if a, _ := p.b.Mark('a'); a != 30001 {
		t.Errorf("mark behind the undo: %d", a)
	}
}
