package cluster_test

import (
	"slices"
	"testing"

	"copyist/cluster"
	"copyist/glyph"
)

// chapterExamples is the chapter's table of examples: a list, and its boundaries.
var chapterExamples = []struct {
	list string
	want []int
}{
	{"", []int{0}},
	{"65 301 65", []int{0, 2, 3}},
	{"301 301", []int{0, 2}},
	{"D A", []int{0, 2}},
	{"A D", []int{0, 1, 2}},
	{"D 301", []int{0, 1, 2}},
	{"-80 301", []int{0, 1, 2}},
	{"D800 301", []int{0, 1, 2}},
	{"1100 1161 11A8", []int{0, 3}},
	{"AC00 11A8 11A8", []int{0, 3}},
	{"AC01 1161", []int{0, 1, 2}},
	{"915 903 915", []int{0, 2, 3}},
	{"600 61", []int{0, 2}},
	{"600 A", []int{0, 1, 2}},
	{"915 94D 915", []int{0, 3}},
	{"915 93C 94D 200D 915", []int{0, 5}},
	{"915 93C 915", []int{0, 2, 3}},
	{"61 94D 915", []int{0, 2, 3}},
	{"1F468 200D 1F469", []int{0, 3}},
	{"1F468 FE0F 200D 1F469", []int{0, 4}},
	{"61 200D 1F469", []int{0, 2, 3}},
	{"1F468 200D 200D 1F469", []int{0, 3, 4}},
	{"1F1E6 1F1E7 1F1E8", []int{0, 2, 3}},
	{"61 1F1E6 1F1E7 1F1E8 1F1E9", []int{0, 1, 3, 5}},
	{"1F1E6 301 1F1E7 1F1E8", []int{0, 2, 4}},
}

func TestP302ExamplesOfTheChapter(t *testing.T) {
	for _, e := range chapterExamples {
		holdBreaks(t, hex(t, e.list), e.want)
		if got := boundaries(hex(t, e.list)); !slices.Equal(got, e.want) {
			t.Errorf("the test's own reading of %s: %v, want %v", e.list, got, e.want)
		}
	}
}

// ruleExamples have, for each rule, lists at whose last inner offset it decides, and near to them lists at which a rule does that is easily taken for it.
var ruleExamples = []struct {
	rule  string
	atoms []int
}{
	{"R1", []int{cr, lf}},
	{"R1", []int{lf, cr, lf}},
	{"R1", []int{cr, cr, lf}},
	{"R1", []int{prepend, cr, lf}},
	{"R2", []int{cr, cr}},
	{"R2", []int{lf, lf}},
	{"R2", []int{lf, cr}},
	{"R2", []int{cr, letter}},
	{"R2", []int{cr, accent}},
	{"R2", []int{lf, joiner}},
	{"R2", []int{control, spacing}},
	{"R2", []int{raw, accent}},
	{"R2", []int{raw, raw}},
	{"R2", []int{lone, accent}},
	{"R2", []int{noAtom, joiner}},
	{"R2", []int{9, linker}},
	{"R3", []int{letter, cr}},
	{"R3", []int{letter, lf}},
	{"R3", []int{prepend, lf}},
	{"R3", []int{prepend, control}},
	{"R3", []int{prepend, raw}},
	{"R3", []int{prepend, lone}},
	{"R3", []int{joiner, -257}},
	{"R4", []int{hangulL, hangulL}},
	{"R4", []int{hangulL, hangulV}},
	{"R4", []int{hangulL, hangulLV}},
	{"R4", []int{hangulL, hangulLVT}},
	{"R5", []int{hangulLV, hangulV}},
	{"R5", []int{hangulLV, hangulT}},
	{"R5", []int{hangulV, hangulV}},
	{"R5", []int{hangulV, hangulT}},
	{"R6", []int{hangulLVT, hangulT}},
	{"R6", []int{hangulT, hangulT}},
	{"R7", []int{letter, accent}},
	{"R7", []int{letter, joiner}},
	{"R7", []int{letter, nonJoiner}},
	{"R7", []int{consonant, linker}},
	{"R7", []int{accent, accent}},
	{"R7", []int{joiner, joiner}},
	{"R7", []int{regional, accent}},
	{"R7", []int{hangulT, joiner}},
	{"R7", []int{prepend, accent}},
	{"R8", []int{letter, spacing}},
	{"R8", []int{spacing, spacing}},
	{"R8", []int{prepend, spacing}},
	{"R9", []int{prepend, letter}},
	{"R9", []int{prepend, prepend}},
	{"R9", []int{prepend, consonant}},
	{"R9", []int{prepend, picture}},
	{"R9", []int{prepend, regional}},
	{"R9", []int{regional, prepend, regional}},
	{"R9", []int{prepend, hangulLVT}},
	{"R10", []int{consonant, linker, consonant}},
	{"R10", []int{consonant, linker, linker, consonant}},
	{"R10", []int{consonant, accent, linker, consonant}},
	{"R10", []int{consonant, linker, accent, consonant}},
	{"R10", []int{consonant, joiner, linker, consonant}},
	{"R10", []int{consonant, linker, joiner, consonant}},
	{"R10", []int{consonant, 0x93C, linker, joiner, accent, consonant}},
	{"R10", []int{consonant, linker, consonant, linker, consonant}},
	{"R10", []int{0x995, 0x9CD, 0xD15}},
	{"R11", []int{picture, joiner, picture}},
	{"R11", []int{picture, accent, joiner, picture}},
	{"R11", []int{picture, linker, nonJoiner, 0x1F3FB, joiner, picture}},
	{"R11", []int{picture, joiner, picture, joiner, picture}},
	{"R12", []int{regional, regional}},
	{"R12", []int{regional, regional, regional, 0x1F1FF}},
	{"R12", []int{letter, regional, regional}},
	{"R12", []int{prepend, regional, regional}},
	{"R12", []int{regional, accent, regional, regional}},
	{"R12", []int{lf, regional, regional}},
	{"R13", []int{letter, letter}},
	{"R13", []int{letter, prepend}},
	{"R13", []int{accent, letter}},
	{"R13", []int{hangulL, hangulT}},
	{"R13", []int{hangulV, hangulL}},
	{"R13", []int{hangulV, hangulLV}},
	{"R13", []int{hangulLV, hangulL}},
	{"R13", []int{hangulLV, hangulLV}},
	{"R13", []int{hangulLVT, hangulV}},
	{"R13", []int{hangulT, hangulV}},
	{"R13", []int{hangulT, hangulL}},
	{"R13", []int{letter, hangulT}},
	{"R13", []int{spacing, letter}},
	{"R13", []int{consonant, consonant}},
	{"R13", []int{linker, consonant}},
	{"R13", []int{consonant, accent, consonant}},
	{"R13", []int{consonant, joiner, consonant}},
	{"R13", []int{letter, linker, consonant}},
	{"R13", []int{consonant, linker, letter}},
	{"R13", []int{consonant, linker, nonJoiner, consonant}},
	{"R13", []int{consonant, nonJoiner, linker, consonant}},
	{"R13", []int{consonant, spacing, linker, consonant}},
	{"R13", []int{consonant, linker, spacing, consonant}},
	{"R13", []int{consonant, linker, consonant, consonant}},
	{"R13", []int{consonant, linker, consonant, accent, consonant}},
	{"R13", []int{consonant, lf, linker, consonant}},
	{"R13", []int{picture, picture}},
	{"R13", []int{joiner, picture}},
	{"R13", []int{accent, joiner, picture}},
	{"R13", []int{letter, joiner, picture}},
	{"R13", []int{picture, joiner, letter}},
	{"R13", []int{picture, joiner, joiner, picture}},
	{"R13", []int{picture, joiner, accent, picture}},
	{"R13", []int{picture, joiner, accent, joiner, picture}},
	{"R13", []int{picture, spacing, joiner, picture}},
	{"R13", []int{picture, letter, accent, joiner, picture}},
	{"R13", []int{regional, regional, regional}},
	{"R13", []int{prepend, regional, regional, regional}},
	{"R13", []int{regional, accent, regional}},
	{"R13", []int{regional, joiner, regional}},
	{"R13", []int{regional, letter}},
	{"R13", []int{letter, regional}},
}

func TestRulesOneByOne(t *testing.T) {
	for _, e := range ruleExamples {
		k := len(e.atoms) - 1
		r := decides(e.atoms, k)
		if r.name != e.rule {
			t.Errorf("at %d of %X the rule %s decides, not %s", k, e.atoms, r.name, e.rule)
		}
		if got := cluster.IsBreak(e.atoms, k); got != r.boundary {
			t.Errorf("%s: IsBreak(%X, %d) = %v", e.rule, e.atoms, k, got)
		}
		holdBreaks(t, e.atoms, boundaries(e.atoms))
	}
}

// The rows are L, the letters of a row R, both in the order of the classes' numbers: + where a list of two is one cluster. (Conjuncts, pictures and joiners have no say in a list of two.)
var pairs = [...]string{
	glyph.Other:       "....++..+......",
	glyph.CR:          "..+............",
	glyph.LF:          "...............",
	glyph.Control:     "...............",
	glyph.Extend:      "....++..+......",
	glyph.Joiner:      "....++..+......",
	glyph.Regional:    "....+++.+......",
	glyph.Prepend:     "+...+++++++++++",
	glyph.SpacingMark: "....++..+......",
	glyph.HangulL:     "....++..+++.++.",
	glyph.HangulV:     "....++..+.++...",
	glyph.HangulT:     "....++..+..+...",
	glyph.HangulLV:    "....++..+.++...",
	glyph.HangulLVT:   "....++..+..+...",
	glyph.Pictograph:  "....++..+......",
}

func TestRulesOfEveryPairOfClasses(t *testing.T) {
	of := map[int]int{}
	for _, atom := range kinds {
		of[glyph.Class(atom)] = atom
	}
	for left, row := range pairs {
		for right := range glyph.Pictograph + 1 {
			together := row[right] == '+'
			atoms := []int{of[left], of[right]}
			if got := cluster.IsBreak(atoms, 1); got == together {
				t.Errorf("classes %d and %d: IsBreak = %v", left, right, got)
			}
		}
	}
}

func TestRulesOfEveryShortList(t *testing.T) {
	for n := range 5 {
		lists(kinds, n, func(atoms []int) { holdBreaks(t, atoms, boundaries(atoms)) })
	}
	rows := []int{consonant, linker, accent, joiner, nonJoiner, picture, regional, prepend}
	for n := 5; n <= 6; n++ {
		lists(rows, n, func(atoms []int) { holdBreaks(t, atoms, boundaries(atoms)) })
	}
}

func TestRulesOfLongerLists(t *testing.T) {
	for _, atoms := range someLists(302, 3000, 60) {
		holdBreaks(t, atoms, boundaries(atoms))
	}
}

// A row of R10 is sought only where an atom of one of two classes ends it: no other class has the parts of such a row.
func TestR10PartsHaveTheClassesOfMarks(t *testing.T) {
	for atom := -300; atom < 0x110100; atom++ {
		if has(atom, glyph.Extending, glyph.Linker) && !is(atom, glyph.Extend, glyph.Joiner) {
			t.Errorf("%X has the part %d and the class %d", atom, glyph.Conjunct(atom), glyph.Class(atom))
		}
	}
}
