package object_test

import (
	"math/rand"
	"slices"
	"testing"

	"copyist/api"
)

// stretchOf gives a stretch of which long texts are made: words, quotes, brackets, accents in rows, flags, families, conjuncts, breaks, raw atoms.
func stretchOf(enc int, r *rand.Rand) []int {
	many := func(atoms ...int) []int { return slices.Repeat(atoms, 1+r.Intn(90)) }
	few := func(atoms ...int) []int { return slices.Repeat(atoms, 1+r.Intn(4)) }
	plain := [][]int{
		few('a'), few('b', 'c'), few('.'), few(' '), few('\t'), few('"'), few('\\'), {'\''}, {'`'}, few('('), few(')'), {'['}, {']'}, {'{'}, {'}'}, {'<'}, {'>'},
		{'{', 10}, {10, ' ', '}'}, few(10), few(13), few(13, 10), {10, 13}, few(10, ' '), many('a'), many(' '), many('.', 'a'), many('\\'),
	}
	if enc == api.Latin1 {
		plain = append(plain, few(0xE9), few(0xAD), few(0xA0), few(0x85))
		return plain[r.Intn(len(plain))]
	}
	joined := [][]int{
		few(0x301), many(0x301), append([]int{'e'}, many(0x301)...), {' ', 0x301}, {'(', 0x301}, {')', 0x20DD}, {'"', 0x301}, {'\\', 0x301}, {0x600, '('}, {0x600, 'a'}, many(0x600),
		few(0x1F1E6), many(0x1F1E6), few(0x1F468, 0x200D), many(0x1F468, 0x200D), append([]int{0x1F468}, append(many(0xFE0F), 0x200D, 0x1F469)...),
		few(0x915, 0x94D), many(0x915, 0x94D), few(0x915, 0x903), many(0x1100), few(0x1161), {0xAC00}, {0x200B}, {0x3000}, few(0x4E00),
	}
	switch {
	case r.Intn(3) > 0:
		return plain[r.Intn(len(plain))]
	case r.Intn(12) > 0:
		return joined[r.Intn(len(joined))]
	case enc == api.UTF8:
		return []int{-1 - 0xC3}
	}
	return []int{0xDC00}
}

func longText(enc, n int, r *rand.Rand) []int {
	var out []int
	for len(out) < n {
		out = append(out, stretchOf(enc, r)...)
	}
	return out
}

// Every object in long texts at random.
func TestAtRandom(t *testing.T) {
	t.Parallel()
	r := rand.New(rand.NewSource(911))
	for i := range 64 {
		enc := encodings[i%4]
		p := pairOf(t, enc, longText(enc, []int{20, 100, 300, 700}[i/4%4], r))
		for range 15 {
			at := r.Intn(p.text.Len()+3) - 1
			p.objects(t, at, 0, 1+r.Intn(3), 1+r.Intn(30))
		}
	}
}

// Long rows around what is asked for, so that it lies at each place around the ends of what is read at once.
func TestAroundWindows(t *testing.T) {
	t.Parallel()
	rows := [][]int{{'a'}, {' '}, {0x301}, {0x1F1E6}, {0x1F468, 0x200D}, {0x915, 0x94D}, {10}, {13, 10}, {' ', 10}, {'a', '.'}, {0x600}, {'\\'}, {'('}, {')'}, {'"'}}
	heads := [][]int{{'x', 0x301}, {'"'}, {'('}, {' '}, {'{', 10}, {10, 'b', 10}}
	tails := [][]int{nil, {0x301}, {' ', 'y', 10}, {13, 10}, {'"', ' '}, {')', ')'}, {10, ' ', '}'}}
	for i, unit := range rows {
		for j, n := range []int{15, 16, 30, 31, 32, 95} {
			for k, head := range heads {
				atoms := slices.Concat(head, slices.Repeat(unit, n), tails[(i+j+k)%len(tails)])
				p := pairOf(t, wide[n%3], atoms)
				whole := len(atoms)
				for _, at := range []int{0, 1, n, n + 1, whole / 2, whole - 1, whole} {
					p.objects(t, at, 1, n)
				}
			}
		}
	}
}
