package motion_test

import (
	"math/rand"
	"slices"
	"testing"

	"copyist/api"
)

// Stretches of which long texts are made: words, accents in rows, flags, families, conjuncts, syllables, breaks, raw atoms.
func stretchOf(enc int, r *rand.Rand) []int {
	many := func(atoms ...int) []int { return slices.Repeat(atoms, 1+r.Intn(90)) }
	few := func(atoms ...int) []int { return slices.Repeat(atoms, 1+r.Intn(4)) }
	plain := [][]int{few('a'), few('b', 'c'), few('.'), few(','), few(' '), few('\t'), few('('), few(')'), {'['}, {']'}, {'{'}, {'}'}, few(10), few(13), few(13, 10), {10, 13}, many('a'), many(' '), many('.', 'a')}
	if enc == api.Latin1 {
		plain = append(plain, few(0xE9), few(0xAD), few(0xA0), few(0x85))
		return plain[r.Intn(len(plain))]
	}
	joined := [][]int{
		few(0x301), many(0x301), append([]int{'e'}, many(0x301)...), {' ', 0x301}, {'(', 0x301}, {')', 0x20DD}, {0x600, '('}, {0x600, 'a'}, many(0x600),
		few(0x1F1E6), many(0x1F1E6), append([]int{0x1F1E6}, many(0x301)...), few(0x1F468, 0x200D), many(0x1F468, 0x200D), append([]int{0x1F468}, append(many(0xFE0F), 0x200D, 0x1F469)...),
		few(0x915, 0x94D), many(0x915, 0x94D), append([]int{0x915}, append(many(0x93C), 0x94D, 0x915)...), few(0x915, 0x903), many(0x1100), few(0x1161), few(0x11A8), {0xAC00}, {0xAC01}, {0x200B}, {0x3000}, few(0x4E00),
	}
	switch {
	case r.Intn(3) > 0:
		return plain[r.Intn(len(plain))]
	case r.Intn(12) > 0:
		return joined[r.Intn(len(joined))]
	case enc == api.UTF8:
		return []int{-1 - 0xC3}
	}
	return []int{0xDC00}
}

func longText(enc, n int, r *rand.Rand) []int {
	var out []int
	for len(out) < n {
		out = append(out, stretchOf(enc, r)...)
	}
	return out
}

func anyOf(list []int, r *rand.Rand) int { return list[r.Intn(len(list))] }

// Every call on long texts at random.
func TestAtRandom(t *testing.T) {
	t.Parallel()
	r := rand.New(rand.NewSource(810))
	for i := range 80 {
		enc := encodings[i%4]
		p := pairOf(t, enc, longText(enc, []int{20, 100, 300, 700}[i/4%4], r))
		n := p.text.Len()
		for range 15 {
			at, k := r.Intn(n+3)-1, anyOf([]int{0, 1, 1, 2, 3, 7, 20, 100}, r)
			p.places(t, at)
			p.place(t, r.Intn(p.doc.count+2)-1, r.Intn(200)-1)
			arg := anyOf(p.doc.atoms, r)
			for _, kind := range charKinds {
				p.chars(t, at, mv(kind, k, arg))
			}
			for _, kind := range rowKinds {
				p.rows(t, at, r.Intn(100), mv(kind, k, 0))
			}
			for _, kind := range wordKinds {
				p.words(t, at, mv(kind, k, 0))
			}
			for _, kind := range paraKinds {
				p.paras(t, at, mv(kind, k, 0))
			}
			for kind := range 4 {
				p.between(t, at, r.Intn(n+1), kind)
			}
			for range 8 {
				p.reach(t, at, mv(1+r.Intn(33), k, arg))
			}
		}
	}
}

// Long rows in front of what is asked for, so that it lies at each place around the ends of what is read at once.
func TestAroundWindows(t *testing.T) {
	t.Parallel()
	rows := map[string][]int{"letters": {'a'}, "blanks": {' '}, "accents": {0x301}, "flags": {0x1F1E6}, "families": {0x1F468, 0x200D}, "conjuncts": {0x915, 0x94D}, "lines": {10}, "crlf": {13, 10}, "words": {'a', '.'}, "prepends": {0x600}, "syllables": {0x1100, 0x1161}, "raw": {0x200B}}
	for name, unit := range rows {
		for _, n := range []int{15, 16, 30, 31, 32, 94, 95} {
			atoms := append([]int{'x', 0x301}, slices.Repeat(unit, n)...)
			for _, behind := range [][]int{nil, {0x301}, {' ', 'y', 10}, {13, 10}, {0x915, 'z'}, {0x1F469}, {0x1F1E7, 0x301, '(', 10, ')'}} {
				p := pairOf(t, wide[n%3], append(slices.Clone(atoms), behind...))
				whole := p.text.Len()
				for _, at := range []int{2, n + 1, n + 2, whole / 2, whole - 1, whole} {
					p.places(t, at)
					for _, kind := range []int{api.MLeft, api.MRight, api.MEnd, api.MFirst} {
						p.chars(t, at, mv(kind, n%2*n, 0))
					}
					for _, kind := range []int{api.MWord, api.MBack, api.MWordEnd, api.MBackEnd} {
						p.words(t, at, mv(kind, (n+1)%2*n, 0))
					}
					p.paras(t, at, mv(api.MParaNext, 0, 0))
					p.paras(t, at, mv(api.MParaPrev, 0, 0))
					p.paras(t, at, mv(api.MMatch, 0, 0))
					p.between(t, 0, at, api.Inclusive)
				}
				if t.Failed() {
					t.Fatal(name)
				}
			}
		}
	}
}
