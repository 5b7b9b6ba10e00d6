package pattern_test

import (
	"math/rand"
	"slices"
	"testing"

	"copyist/pattern"
)

// patches are lines of some thousand letters, with some signs strewn among them; short ones and breaks of each kind between them.
func patches(r *rand.Rand) []int {
	var atoms []int
	for range 1 + r.Intn(5) {
		size := []int{0, 3, 900, 1500, 4095, 4096, 4097, 4098, 5200, 9000}[r.Intn(10)]
		row := slices.Repeat([]int{'a'}, size)
		for range r.Intn(4) {
			if size > 0 {
				at := r.Intn(size)
				copy(row[at:], [][]int{{'x'}, {' ', 'x', ' '}, {'y', 'x'}, {' '}, {'x', 'x', 'y'}, {'X'}, {'b'}}[r.Intn(7)])
			}
		}
		atoms = append(atoms, row...)
		atoms = append(atoms, [][]int{{10}, {13}, {13, 10}, {10, 10}, nil}[r.Intn(5)]...)
	}
	return atoms
}

// placesByMatch tells all places by Match over whole lines, which are at hand; false: there are too many to be told one by one.
func placesByMatch(p *pattern.Pattern, atoms []int) ([]found, bool) {
	var all []found
	for _, line := range plainLines(atoms) {
		for s := 0; ; s++ {
			m, ok := p.Match(atoms[line.From:line.To], s)
			if !ok {
				break
			}
			if len(all) == 100 {
				return nil, false
			}
			s = m[0]
			all = append(all, at(line.From+m[0], line.From+m[1]))
		}
	}
	return all, true
}

// P1008: lines that are too long to be read at once, beside others; from offsets around the places, the ends of lines and of what is read at once.
func TestSearchInLongLines(t *testing.T) {
	t.Parallel()
	r := rand.New(rand.NewSource(1008))
	for i := range 24 {
		atoms := patches(r)
		x := load(t, encodings[i%len(encodings)], atoms)
		for _, src := range []string{"x", `\<x`, `x\>`, `\<a`, `a\>`, "^", "$", "^x", "x$", "xy*", `y\?x`, `a\{9}x`, `xa*b`, `\(a\+x\)\{2}`, "X", `a$\|x`, "zz"} {
			ignore := r.Intn(3) == 0
			p := must(t, spell(src), ignore)
			all, few := placesByMatch(p, atoms)
			if !few {
				continue
			}
			for range 8 {
				from := r.Intn(len(atoms)+3) - 1
				if len(all) > 0 && r.Intn(2) == 0 {
					from = all[r.Intn(len(all))].span.From + r.Intn(5) - 2
				}
				for k := range 4 {
					back, wrap := k&1 > 0, k&2 > 0
					if got, want := search(p, x, from, back, wrap), plainSearch(all, from, back, wrap); got != want {
						t.Fatalf("%q in %d atoms (the text %d), ignore %v: from %d, back %v, wrap %v: %v, want %v", src, len(atoms), i, ignore, from, back, wrap, got, want)
					}
				}
			}
		}
	}
}
