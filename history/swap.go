package history

import (
	"sort"

	"copyist/api"
)

// stretch: the atoms from up to to.
type stretch struct{ from, to int }

// swap is what offsets feel of an edit: gone is where the atoms that it took away stood ahead of its Change, come where those that it put stand behind it. So the inverse is the same swap, turned round.
type swap struct{ gone, come stretch }

// swapsOf tells the edits of one Change as swaps. Empty ones are left out: no offset goes anywhere by them.
func swapsOf(edits []api.Edit) []swap {
	var swaps []swap
	moved := 0 // how far the edits so far have moved what stands behind them
	for _, e := range edits {
		if e.From == e.To && len(e.Put) == 0 {
			continue
		}
		start := e.From + moved
		come := stretch{start, start + len(e.Put)}
		swaps = append(swaps, swap{gone: stretch{e.From, e.To}, come: come})
		moved = come.to - e.To
	}
	return swaps
}

// inverse takes a Change back.
func inverse(swaps []swap) []swap {
	back := make([]swap, len(swaps))
	for i, s := range swaps {
		back[i] = swap{gone: s.come, come: s.gone}
	}
	return back
}

// landing tells where an offset goes with a Change, and whether the atom at it was left alone.
//
// Only the last edit that begins at it or below it matters: behind that one the offset is no lower than the edit's From, so all edits ahead just move it on, and come says by how far.
func landing(swaps []swap, at int) (int, bool) {
	upto := sort.Search(len(swaps), func(i int) bool { return swaps[i].gone.from > at })
	if upto == 0 {
		return at, true
	}
	s := swaps[upto-1]
	if at >= s.gone.to {
		return at + s.come.to - s.gone.to, true
	}
	return min(at+s.come.from-s.gone.from, s.come.to), false
}
