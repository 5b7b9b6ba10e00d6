package ex

import (
	"slices"

	"copyist/api"
	"copyist/tree"
)

// waiting is offsets of a text that go with its changes as watched ones do, rising. It is a tree of the ways from each to the next, so that a change costs little however many of them wait.
type waiting struct {
	ways tree.Tree[way, way]
}

// way is how far an offset is behind the one ahead of it. Ways add up to offsets.
type way int

func (w way) Measure() way { return w }

func (w way) Add(o way) way { return w + o }

func (w way) Key(int) int { return int(w) }

func newWaiting(offsets []int) *waiting {
	return &waiting{tree.Of[way, way](waysFrom(0, offsets)...)}
}

// waysFrom is rising offsets as the ways to them, from an offset that is ahead of them.
func waysFrom(from int, offsets []int) []way {
	var ways []way
	for _, at := range offsets {
		ways = append(ways, way(at-from))
		from = at
	}
	return ways
}

// place tells an offset by its number.
func (w *waiting) place(i int) int { return int(w.ways.Upto(i + 1)) }

// below tells how many are below an offset.
func (w *waiting) below(at int) int { return max(w.ways.Find(0, at)-1, 0) }

// among tells those from an offset up to another.
func (w *waiting) among(from, to int) []int {
	var all []int
	low := w.below(from)
	at := w.place(low - 1)
	for next := range w.ways.Items(low) {
		at += int(next)
		if at >= to {
			break
		}
		all = append(all, at)
	}
	return all
}

// next takes the first one, if there is one.
func (w *waiting) next() (int, bool) {
	if w.ways.Size() == 0 {
		return 0, false
	}
	first := w.place(0)
	w.settle(first, first+1, nil, 0)
	return first, true
}

// follow goes with a change of the text.
func (w *waiting) follow(edits []api.Edit) {
	for _, e := range slices.Backward(edits) {
		w.settle(e.From, e.To, nil, len(e.Put)-(e.To-e.From))
	}
}

// settle says where those went that were from an offset up to another (-1: it is gone); all behind them have moved by so much.
func (w *waiting) settle(from, to int, went []int, moved int) {
	low, high := w.below(from), w.below(to)
	ahead := w.place(low - 1)
	stay := slices.DeleteFunc(went, func(at int) bool { return at < 0 })
	if high < w.ways.Size() {
		stay = append(stay, w.place(high)+moved)
		high++
	}
	w.ways, _ = w.ways.Replace(low, high, waysFrom(ahead, stay)...)
}
