package cluster_test

import (
	"math"
	"math/rand"
	"slices"
	"strconv"
	"strings"
	"testing"
	"time"

	"copyist/cluster"
	"copyist/glyph"
)

// Atoms that stand for their classes and parts.
const (
	letter    = 'a'
	cr        = 13
	lf        = 10
	control   = 0x200B
	raw       = -0x80
	lone      = 0xD800
	noAtom    = 0x110000
	accent    = 0x301  // Extend, Extending
	nonJoiner = 0x200C // Extend, no part of a conjunct
	linker    = 0x94D  // Extend, Linker
	joiner    = 0x200D // Joiner, Extending
	regional  = 0x1F1E6
	prepend   = 0x600
	spacing   = 0x903
	hangulL   = 0x1100
	hangulV   = 0x1161
	hangulT   = 0x11A8
	hangulLV  = 0xAC00
	hangulLVT = 0xAC01
	picture   = 0x1F468
	consonant = 0x915
)

// kinds has an atom of every class and of every part that a class may have.
var kinds = []int{letter, cr, lf, control, accent, nonJoiner, linker, joiner, regional, prepend, spacing,
	hangulL, hangulV, hangulT, hangulLV, hangulLVT, picture, consonant}

// odd has ints that are no scalars, or no atoms, and the numbers at the ends.
var odd = []int{math.MinInt64, -1 << 40, -257, -256, raw, -1, lone, 0xDFFF, noAtom, 1<<32 + accent, 1 << 62, math.MaxInt64}

// far has numbers far outside of every list.
var far = []int{math.MinInt64, math.MinInt64 + 1, -1 << 32, -1000, -2, 1000000, 1 << 32, math.MaxInt64 - 1, math.MaxInt64}

// sides are the atoms on the two sides of an offset, and all that stands ahead of it, the nearest first.
type sides struct {
	left, right int
	ahead       []int
}

// rule is a row of the chapter's table.
type rule struct {
	name     string
	speaks   func(s sides) bool
	boundary bool
}

func is(atom int, classes ...int) bool { return slices.Contains(classes, glyph.Class(atom)) }

func has(atom int, parts ...int) bool { return slices.Contains(parts, glyph.Conjunct(atom)) }

// row tells how many atoms from the nearest on are of a kind.
func row(ahead []int, of func(atom int) bool) int {
	n := slices.IndexFunc(ahead, func(atom int) bool { return !of(atom) })
	if n < 0 {
		return len(ahead)
	}
	return n
}

func r10(s sides) bool {
	n := row(s.ahead, func(atom int) bool { return has(atom, glyph.Extending, glyph.Linker) })
	linked := slices.ContainsFunc(s.ahead[:n], func(atom int) bool { return has(atom, glyph.Linker) })
	return has(s.right, glyph.Consonant) && linked && n < len(s.ahead) && has(s.ahead[n], glyph.Consonant)
}

func r11(s sides) bool {
	if !is(s.right, glyph.Pictograph) || !is(s.left, glyph.Joiner) {
		return false
	}
	rest := s.ahead[1:]
	n := row(rest, func(atom int) bool { return is(atom, glyph.Extend) })
	return n < len(rest) && is(rest[n], glyph.Pictograph)
}

func r12(s sides) bool {
	regionals := row(s.ahead, func(atom int) bool { return is(atom, glyph.Regional) })
	return is(s.right, glyph.Regional) && regionals%2 == 1
}

var rules = []rule{
	{"R1", func(s sides) bool { return is(s.left, glyph.CR) && is(s.right, glyph.LF) }, false},
	{"R2", func(s sides) bool { return is(s.left, glyph.CR, glyph.LF, glyph.Control) }, true},
	{"R3", func(s sides) bool { return is(s.right, glyph.CR, glyph.LF, glyph.Control) }, true},
	{"R4", func(s sides) bool {
		return is(s.left, glyph.HangulL) && is(s.right, glyph.HangulL, glyph.HangulV, glyph.HangulLV, glyph.HangulLVT)
	}, false},
	{"R5", func(s sides) bool {
		return is(s.left, glyph.HangulLV, glyph.HangulV) && is(s.right, glyph.HangulV, glyph.HangulT)
	}, false},
	{"R6", func(s sides) bool {
		return is(s.left, glyph.HangulLVT, glyph.HangulT) && is(s.right, glyph.HangulT)
	}, false},
	{"R7", func(s sides) bool { return is(s.right, glyph.Extend, glyph.Joiner) }, false},
	{"R8", func(s sides) bool { return is(s.right, glyph.SpacingMark) }, false},
	{"R9", func(s sides) bool { return is(s.left, glyph.Prepend) }, false},
	{"R10", r10, false},
	{"R11", r11, false},
	{"R12", r12, false},
	{"R13", func(sides) bool { return true }, true},
}

// decides tells the first rule that speaks at an offset inside of a list.
func decides(atoms []int, k int) rule {
	ahead := slices.Clone(atoms[:k])
	slices.Reverse(ahead)
	s := sides{left: atoms[k-1], right: atoms[k], ahead: ahead}
	return rules[slices.IndexFunc(rules, func(r rule) bool { return r.speaks(s) })]
}

// boundaries goes by the chapter's table at every offset, one by one.
func boundaries(atoms []int) []int {
	out := []int{0}
	for k := 1; k < len(atoms); k++ {
		if decides(atoms, k).boundary {
			out = append(out, k)
		}
	}
	if len(atoms) > 0 {
		out = append(out, len(atoms))
	}
	return out
}

// lists calls f with every list of n atoms of some kinds. It hands the same memory on each time.
func lists(of []int, n int, f func(atoms []int)) {
	atoms := make([]int, n)
	var fill func(i int)
	fill = func(i int) {
		if i == n {
			f(atoms)
			return
		}
		for _, atom := range of {
			atoms[i] = atom
			fill(i + 1)
		}
	}
	fill(0)
}

// someLists are lists of atoms of all kinds and of ints that are no atoms, with rows of one kind in them.
func someLists(seed int64, count, longest int) [][]int {
	r := rand.New(rand.NewSource(seed))
	of := append(slices.Clone(kinds), odd...)
	out := make([][]int, count)
	for i := range out {
		for n := r.Intn(longest + 1); len(out[i]) < n; {
			atom := of[r.Intn(len(of))]
			for times := 1 + r.Intn(4)*r.Intn(3); times > 0 && len(out[i]) < n; times-- {
				out[i] = append(out[i], atom)
			}
		}
	}
	return out
}

// hex reads a list as the chapter writes it.
func hex(t *testing.T, text string) []int {
	t.Helper()
	var atoms []int
	for _, word := range strings.Fields(text) {
		n, err := strconv.ParseInt(word, 16, 64)
		if err != nil {
			t.Fatal(err)
		}
		atoms = append(atoms, int(n))
	}
	return atoms
}

// holdBreaks holds Breaks and what it must agree with against the boundaries that are wanted.
func holdBreaks(t *testing.T, atoms, want []int) {
	t.Helper()
	if got := cluster.Breaks(atoms); !slices.Equal(got, want) {
		t.Fatalf("Breaks(%X) = %v, want %v", atoms, got, want)
	}
}

// soon fails the test if f has not ended in a time that is long for a scan, and short for one whose time grows with the square.
func soon(t *testing.T, what string, f func()) {
	t.Helper()
	done := make(chan struct{})
	go func() {
		defer close(done)
		f()
	}()
	select {
	case <-done:
	case <-time.After(30 * time.Second):
		t.Fatalf("P301: %s does not end soon", what)
	}
}
