package history_test

import (
	"testing"

	"copyist/api"
)

// The chapter's table, row by row, in each encoding. Tags count bytes: unit is how many an atom has.
func TestExamples(t *testing.T) {
	for _, enc := range encodings {
		unit := 1
		if enc == api.UTF16LE || enc == api.UTF16BE {
			unit = 2
		}
		tags := func(places ...int) []int {
			for i, p := range places {
				if p >= 0 {
					places[i] = p * unit
				}
			}
			return places
		}
		p := load(t, enc, "abcdef", 2)
		firstRows(t, p, tags)
		lastRows(t, p, tags)
	}
}

func firstRows(t *testing.T, p *pair, tags func(...int) []int) {
	t.Helper()
	is(t, "Change", p.change(put(1, 2, "X")), api.ErrShut)
	p.told("abcdef", tags(0, 1, 2, 3, 4, 5)...)
	is(t, "SetMark", p.mark(97, 3), api.OK)
	is(t, "SetMark", p.mark(98, 6), api.OK)
	is(t, "Watch", p.watch(2, 3, 6), api.OK)
	is(t, "Begin", p.begin(7), api.ErrRange)
	is(t, "Begin", p.begin(1), api.OK)
	is(t, "Begin", p.begin(1), api.ErrOpen)
	p.depth(0, 0, false)
	is(t, "Change", p.change(put(2, 5, "")), api.OK)
	p.told("abf", tags(0, 1, 5)...)
	p.marks(97, 2, 98, 3)
	p.watched(-1, -1, 3)
	p.depth(0, 0, true)
	_, e := p.undo()
	is(t, "Undo", e, api.ErrOpen)
	p.saved()
	is(t, "End", p.end(2), api.OK)
	p.depth(1, 0, true)
	at, e := p.undo()
	answers(t, "Undo", at, e, 1)
	p.told("abcdef", tags(0, 1, 2, 3, 4, 5)...)
	p.marks(97, 5, 98, 6)
	p.watched(-1, -1, 6)
	p.depth(0, 1, false)
	_, e = p.undo()
	is(t, "Undo", e, api.ErrOldest)
	at, e = p.redo()
	answers(t, "Redo", at, e, 2)
	p.told("abf", tags(0, 1, 5)...)
	p.marks(97, 2, 98, 3)
	p.watched(-1, -1, 3)
	p.depth(1, 0, true)
}

func lastRows(t *testing.T, p *pair, tags func(...int) []int) {
	t.Helper()
	is(t, "Begin", p.begin(0), api.OK)
	is(t, "Change", p.change(put(0, 0, "xy"), put(1, 2, "Z")), api.OK)
	is(t, "End", p.end(3), api.OK)
	p.told("xyaZf", tags(-1, -1, 0, -1, 5)...)
	p.marks(97, 4, 98, 5)
	p.watched(-1, -1, 5)
	p.saved()
	p.depth(2, 0, false)
	is(t, "Begin", p.begin(0), api.OK)
	is(t, "Change", p.change(put(0, 0, "")), api.OK)
	is(t, "End", p.end(0), api.OK)
	p.depth(2, 0, false)
	is(t, "Begin", p.begin(4), api.OK)
	is(t, "Change", p.change(put(0, 1, "")), api.OK)
	is(t, "Change", p.change(put(0, 0, "q")), api.OK)
	at, e := p.drop()
	answers(t, "Drop", at, e, 4)
	p.told("xyaZf", tags(-1, -1, 0, -1, 5)...)
	p.marks(97, 4, 98, 5)
	p.watched(-1, -1, 5)
	p.depth(2, 0, false)
	is(t, "Begin", p.begin(5), api.OK)
	is(t, "Change", p.change(put(5, 5, "!")), api.OK)
	is(t, "End", p.end(6), api.OK)
	p.told("xyaZf!", tags(-1, -1, 0, -1, 5, -1)...)
	p.marks(97, 4, 98, 6)
	p.depth(2, 0, true)
	at, e = p.undo()
	answers(t, "Undo", at, e, 5)
	p.depth(1, 1, false)
	at, e = p.undo()
	answers(t, "Undo", at, e, 0)
	_, e = p.undo()
	is(t, "Undo", e, api.ErrOldest)
	p.told("abf", tags(0, 1, 5)...)
	p.depth(0, 2, true)
}
