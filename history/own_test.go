package history_test

import (
	"slices"
	"testing"

	"copyist/api"
)

func fill(l []int, x int) {
	l = l[:cap(l)]
	for i := range l {
		l[i] = x
	}
}

// The loaded bytes are neither written into nor kept, their spare room neither.
func TestLoadedBytesAreNotKept(t *testing.T) {
	for _, enc := range encodings {
		room := []byte("abcdef....")
		p := open(t, enc, room[:6], 20, 3)
		p.group(put(0, 0, "xy"))
		p.group(put(3, 4, ""))
		p.undo()
		if string(room) != "abcdef...." {
			t.Fatalf("encoding %d: written into: %q", enc, room)
		}
		for i := range room {
			room[i] = 'q'
		}
		same(t, p.b, p.text, p.m)
		p.undo()
		p.redo()
		p.redo()
	}
}

// Edits and what they put are neither written into nor kept: not by Change, nor for undo and redo.
func TestEditsAreNotKept(t *testing.T) {
	for _, enc := range encodings {
		p := load(t, enc, "abcdef", 3)
		p.everywhere()
		first, second := []int{'x', 'y', 7, 7}, []int{'z', 7, 7}
		room := []api.Edit{{From: 1, To: 2, Put: first[:2]}, {From: 4, To: 4, Put: second[:1]}, {From: 9, To: 9}, {From: 9, To: 9}}
		p.begin(0)
		copied := []api.Edit{put(1, 2, "xy"), put(4, 4, "z")}
		is(t, "Change", p.b.Change(room[:2]), p.m.change(copied))
		if !slices.Equal(first, []int{'x', 'y', 7, 7}) || !slices.Equal(second, []int{'z', 7, 7}) || room[0].From != 1 || room[0].To != 2 || len(room[0].Put) != 2 || room[1].From != 4 || room[1].To != 4 || room[2].From != 9 || room[3].From != 9 {
			t.Fatalf("encoding %d: written into: %v", enc, room)
		}
		fill(first, 'q')
		fill(second, 'q')
		for i := range room {
			room[i] = api.Edit{From: 5, To: 6, Put: []int{'q'}}
		}
		same(t, p.b, p.text, p.m)
		p.end(0)
		p.undo()
		p.redo()
		p.undo()
	}
}

// Watched offsets that were handed in or answered, and marks that were answered, are written into: nothing is seen of it.
func TestOffsetsAreOwn(t *testing.T) {
	p := load(t, api.UTF8, "abcdef", 3)
	p.mark('a', 1)
	p.mark('b', 2)
	room := []int{4, 2, 6, 5, 5}
	is(t, "Watch", p.b.Watch(room[:3]), p.m.watch([]int{4, 2, 6}))
	if !slices.Equal(room, []int{4, 2, 6, 5, 5}) {
		t.Fatalf("Watch has written into what it was given: %v", room)
	}
	one, two := p.b.Watched(), p.b.Watched()
	fill(one, 77)
	if !slices.Equal(two, []int{4, 2, 6}) {
		t.Fatalf("two answers share memory: %v", two)
	}
	fill(room, 78)
	same(t, p.b, p.text, p.m)
	p.begin(0)
	p.change(put(0, 0, "xx"))
	if !slices.Equal(two, []int{4, 2, 6}) || room[0] != 78 || one[0] != 77 {
		t.Fatalf("a Change is seen in what was answered: %v, %v, %v", one, two, room)
	}
	fill(p.b.Watched(), 79)
	p.drop() // what Begin has put by is own too
	told, again := p.b.Marks(), p.b.Marks()
	told = told[:cap(told)]
	for i := range told {
		told[i] = [2]int{1, 1}
	}
	if !slices.Equal(again, [][2]int{{'a', 1}, {'b', 2}}) {
		t.Fatalf("two answers share memory: %v", again)
	}
	same(t, p.b, p.text, p.m)
	p.group(put(0, 1, ""))
	if !slices.Equal(again, [][2]int{{'a', 1}, {'b', 2}}) {
		t.Fatalf("a Change is seen in what was answered: %v", again)
	}
}

// Lists that are empty, with spare room behind them, are not kept either.
func TestEmptyListsAreOwn(t *testing.T) {
	p := load(t, api.UTF8, "abc", 3)
	room := []int{1, 2, 3}
	p.b.Watch(room[:0])
	if w := p.b.Watched(); len(w) != 0 {
		t.Fatalf("Watched %v", w)
	} else if w = append(w, 5); room[0] != 1 {
		t.Fatalf("an answer has spare room of an argument's: %v", room)
	}
	m := append(p.b.Marks(), [2]int{'a', 1})
	if n := append(p.b.Marks(), [2]int{'b', 2}); m[0] != [2]int{'a', 1} || n[0] != [2]int{'b', 2} {
		t.Fatal("two answers share their spare room")
	}
	same(t, p.b, p.text, p.m)
}

// Two Books in turns: what is done to one is not seen in the other, though they were opened with the same bytes.
func TestTwoBooks(t *testing.T) {
	loaded := []byte("abcdef")
	p := open(t, api.UTF8, loaded, 50, 2)
	q := open(t, api.UTF8, loaded, 50, 2)
	both := func() {
		t.Helper()
		same(t, p.b, p.text, p.m)
		same(t, q.b, q.text, q.m)
	}
	p.mark('a', 3)
	q.mark('a', 6)
	p.watch(1, 2)
	both()
	p.begin(2)
	both()
	p.change(put(0, 2, "x"))
	q.group(put(5, 6, ""))
	both()
	p.end(0)
	q.watch(0)
	q.saved()
	both()
	q.undo()
	p.group(put(0, 0, "yy"))
	both()
	p.undo()
	q.redo()
	both()
	q.begin(0)
	q.change(put(0, 5, ""))
	p.saved()
	both()
	q.drop()
	p.redo()
	both()
}

// Asking changes nothing.
func TestAskingChangesNothing(t *testing.T) {
	p := load(t, api.UTF8, "abcdef", 3)
	p.everywhere()
	p.group(put(1, 3, "x"))
	p.undo()
	for range 2 {
		for n := range 200 {
			p.b.Mark(n - 20)
		}
		p.b.Marks()
		p.b.Watched()
		p.b.Depth()
		p.b.Dirty()
		p.b.IsOpen()
		p.b.Text().Snap()
		same(t, p.b, p.text, p.m)
		p.begin(0)
	}
}

// What a Book tells behind a change of its text that it was not asked for is not said; but every call ends.
func TestATextThatIsChangedFromOutside(t *testing.T) {
	p := load(t, api.UTF8, "abcdef", 2)
	p.everywhere()
	p.group(put(4, 6, "xyz"))
	p.text.Change([]api.Edit{put(0, 7, "")})
	p.b.Begin(0)
	p.b.Change([]api.Edit{put(0, 0, "q")})
	p.b.End(1)
	for range 3 {
		p.b.Undo()
	}
	p.text.Change([]api.Edit{put(0, p.text.Len(), "")})
	for range 3 {
		p.b.Redo()
	}
	p.b.Marks()
	p.b.Watched()
	p.b.Begin(0)
	p.b.Drop()
}
