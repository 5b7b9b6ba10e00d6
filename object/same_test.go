package object_test

import (
	"math"
	"slices"
	"testing"

	"copyist/api"
	"copyist/object"
	"copyist/piece"
)

// The objects of each call, and the arguments of those that have one.
var (
	wordKinds  = []int{61, 62, 63, 64}
	quoteKinds = []int{65, 66}
	blockKinds = []int{67, 68}
	paraKinds  = []int{69, 70}
	allKinds   = slices.Concat(wordKinds, quoteKinds, blockKinds, paraKinds)
	noKinds    = []int{math.MinInt, -61, -1, 0, 1, 33, 59, 60, 71, 72, 125, 61 + 256, 1 << 40, math.MaxInt}
	quoteArgs  = []int{34, 39, 96}
	blockArgs  = []int{40, 91, 123, 60}
)

type call = func(x *piece.Text, at int, m api.Move) (api.Span, api.Errno)

// calls are the four of them by their names, with the kinds that each knows.
var calls = []struct {
	name  string
	call  call
	kinds []int
	model func(d *doc, at int, m api.Move) answer
}{
	{"Words", object.Words, wordKinds, (*doc).words},
	{"Quotes", object.Quotes, quoteKinds, (*doc).quotes},
	{"Blocks", object.Blocks, blockKinds, (*doc).block},
	{"Paras", object.Paras, paraKinds, (*doc).paras},
}

// pair is a text and the same text read plainly.
type pair struct {
	text *piece.Text
	doc  *doc
}

func pairOf(t *testing.T, enc int, atoms []int) pair {
	t.Helper()
	return pair{load(t, enc, atoms), read(atoms)}
}

// offsets gives all of a text, and some outside of it.
func (p pair) offsets() []int {
	out := []int{math.MinInt, -1, p.text.Len() + 1, math.MaxInt}
	for at := range p.text.Len() + 1 {
		out = append(out, at)
	}
	return out
}

// same asks the call that knows a kind, and Take, and holds both against the plain reading.
func (p pair) same(t *testing.T, at int, m api.Move) {
	t.Helper()
	for _, c := range calls {
		if slices.Contains(c.kinds, m.Kind) {
			p.hold(t, c.name, c.call, at, m, c.model(p.doc, at, m))
		}
	}
	p.hold(t, "Take", object.Take, at, m, p.doc.take(at, m))
}

func (p pair) hold(t *testing.T, name string, f call, at int, m api.Move, want answer) {
	t.Helper()
	got, e := f(p.text, at, m)
	if got != want.span || e != want.err {
		t.Fatalf("encoding %d, %q %v: %s at %d, %+v: %+v, %d, want %+v", p.text.Enc(), text(p.doc.atoms), p.doc.atoms, name, at, m, got, e, want)
	}
	if e == api.OK && (got.From < 0 || got.From > got.To || got.To > len(p.doc.atoms) || !p.isBound(got.From) || !p.isBound(got.To)) {
		t.Fatalf("encoding %d, %v: %s at %d, %+v: %+v is not from boundary to boundary", p.text.Enc(), p.doc.atoms, name, at, m, got)
	}
}

// isBound tells whether an offset is a boundary of clusters of the whole text.
func (p pair) isBound(at int) bool {
	return at == len(p.doc.atoms) || slices.ContainsFunc(p.doc.whole, func(s spot) bool { return s.at == at })
}

func text(atoms []int) string {
	var out []rune
	for _, a := range atoms {
		out = append(out, rune(a))
	}
	return string(out)
}

// argsOf gives the arguments that a kind may have; of others one that is not looked at.
func argsOf(kind int) []int {
	switch {
	case slices.Contains(quoteKinds, kind):
		return quoteArgs
	case slices.Contains(blockKinds, kind):
		return blockArgs
	}
	return []int{math.MinInt}
}

// all asks for every object at every offset.
func (p pair) all(t *testing.T, counts ...int) {
	t.Helper()
	for _, at := range p.offsets() {
		p.objects(t, at, counts...)
	}
}

func (p pair) objects(t *testing.T, at int, counts ...int) {
	t.Helper()
	for _, kind := range allKinds {
		for _, arg := range argsOf(kind) {
			for _, k := range counts {
				p.same(t, at, mv(kind, k, arg))
			}
		}
	}
}
