package history

import (
	"maps"
	"slices"

	"copyist/api"
	"copyist/piece"
)

// moment is one end of a group: where the cursor is, and the text.
type moment struct {
	at    int
	text  *piece.Snap
	state int
}

// group is what can be undone, or done again, as a whole. Its changes tell where offsets go; the text itself is taken from the moments.
type group struct {
	begin, end moment
	changes    [][]swap
}

// draft is the open group, with what Drop gives back beside the text.
type draft struct {
	begin   moment
	changes [][]swap
	marks   map[int]int
	watched []int
}

// hasChange: of a Change with empty edits alone nothing is kept.
func (d *draft) hasChange() bool { return len(d.changes) > 0 }

// Begin opens a group of changes, with the cursor at an offset.
func (b *Book) Begin(at int) api.Errno {
	if b.open != nil {
		return api.ErrOpen
	}
	if !b.has(at) {
		return api.ErrRange
	}
	b.open = &draft{begin: b.now(at), marks: maps.Clone(b.marks), watched: copyOf(b.watched)}
	return api.OK
}

// Change does all edits in the open group, or none; marks go with the text.
func (b *Book) Change(edits []api.Edit) api.Errno {
	if b.open == nil {
		return api.ErrShut
	}
	if err := b.text.Change(edits); err != api.OK {
		return err
	}
	if swaps := swapsOf(edits); len(swaps) > 0 {
		b.open.changes = append(b.open.changes, swaps)
		b.follow(swaps)
	}
	return api.OK
}

// End shuts the group, with the cursor at an offset.
func (b *Book) End(at int) api.Errno {
	if b.open == nil {
		return api.ErrShut
	}
	if !b.has(at) {
		return api.ErrRange
	}
	defer b.shut()
	if b.open.hasChange() {
		b.keep(at)
	}
	return api.OK
}

// Drop shuts the group and takes all of it back; it tells the cursor that it began with.
func (b *Book) Drop() (int, api.Errno) {
	if b.open == nil {
		return 0, api.ErrShut
	}
	defer b.shut()
	b.marks, b.watched = b.open.marks, b.open.watched
	return b.visit(b.open.begin), api.OK
}

// IsOpen tells whether a group is open.
func (b *Book) IsOpen() bool { return b.open != nil }

// Undo takes the last group back, and tells the cursor that it began with.
func (b *Book) Undo() (int, api.Errno) {
	if b.open != nil {
		return 0, api.ErrOpen
	}
	if b.done == 0 {
		return 0, api.ErrOldest
	}
	b.done--
	g := b.groups[b.done]
	for _, swaps := range slices.Backward(g.changes) {
		b.follow(inverse(swaps))
	}
	return b.visit(g.begin), api.OK
}

// Redo does the group again that was taken back last, and tells the cursor that it ended with.
func (b *Book) Redo() (int, api.Errno) {
	if b.open != nil {
		return 0, api.ErrOpen
	}
	if b.done == len(b.groups) {
		return 0, api.ErrNewest
	}
	g := b.groups[b.done]
	b.done++
	for _, swaps := range g.changes {
		b.follow(swaps)
	}
	return b.visit(g.end), api.OK
}

// Depth tells how many groups can be undone, and how many done again.
func (b *Book) Depth() (int, int) { return b.done, len(b.groups) - b.done }

// now is the present moment, with the cursor at an offset.
func (b *Book) now(at int) moment {
	return moment{at: at, text: b.text.Snap(), state: b.present}
}

// visit gives the text of a moment back, and tells its cursor.
func (b *Book) visit(m moment) int {
	b.text.Back(m.text)
	b.present = m.state
	return m.at
}

func (b *Book) shut() { b.open = nil }

// keep makes the open group the last that can be undone. Delete clears what it leaves, so that the texts of forgotten groups are let go.
func (b *Book) keep(at int) {
	b.states++
	b.present = b.states
	b.groups = slices.Delete(b.groups, b.done, len(b.groups))
	b.groups = append(b.groups, group{begin: b.open.begin, end: b.now(at), changes: b.open.changes})
	if len(b.groups) > b.depth {
		b.groups = slices.Delete(b.groups, 0, 1)
	}
	b.done = len(b.groups)
}
