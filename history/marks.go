package history

import (
	"cmp"
	"slices"

	"copyist/api"
)

// lost is what is told of a watched offset whose atom was taken away.
const lost = -1

// isName tells whether a number is a mark's name.
func isName(name int) bool {
	return name >= 'a' && name <= 'z' || name == '\'' || name == '<' || name == '>'
}

// SetMark sets a mark.
func (b *Book) SetMark(name, at int) api.Errno {
	if !isName(name) {
		return api.ErrMark
	}
	if !b.has(at) {
		return api.ErrRange
	}
	b.marks[name] = at
	return api.OK
}

// Mark tells where a mark is.
func (b *Book) Mark(name int) (int, api.Errno) {
	at, ok := b.marks[name]
	if !ok {
		return 0, api.ErrMark
	}
	return at, api.OK
}

// Marks tells all marks that are set, each its name and where it is, rising by name.
func (b *Book) Marks() [][2]int {
	told := make([][2]int, 0, len(b.marks))
	for name, at := range b.marks {
		told = append(told, [2]int{name, at})
	}
	slices.SortFunc(told, func(x, y [2]int) int { return cmp.Compare(x[0], y[0]) })
	return told
}

// Watch gives the book offsets that go with the text from here on, in the place of those that it had.
func (b *Book) Watch(offsets []int) api.Errno {
	for _, at := range offsets {
		if !b.has(at) {
			return api.ErrRange
		}
	}
	b.watched = copyOf(offsets)
	return api.OK
}

// Watched tells where the watched offsets are; -1: its atom is gone.
func (b *Book) Watched() []int { return copyOf(b.watched) }

// copyOf shares nothing with a list, an empty one neither.
func copyOf(list []int) []int { return append([]int(nil), list...) }

// follow lets marks and watched offsets go with a Change.
func (b *Book) follow(swaps []swap) {
	for name, at := range b.marks {
		b.marks[name], _ = landing(swaps, at)
	}
	for i, at := range b.watched {
		b.watched[i] = follower(swaps, at)
	}
}

// follower is the landing of a watched offset. A lost one stays lost: it is below every edit.
func follower(swaps []swap, at int) int {
	to, left := landing(swaps, at)
	if !left {
		return lost
	}
	return to
}
