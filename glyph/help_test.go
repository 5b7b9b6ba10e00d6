package glyph_test

import (
	"math"
	"strconv"
	"strings"
	"testing"

	"copyist/glyph"
)

// span is a range of a chapter's table: its ends, the word that heads its row, and what stands behind the sign =.
type span struct {
	from, to int
	head     string
	distance int
}

func hex(t *testing.T, text string) int {
	t.Helper()
	n, err := strconv.ParseInt(text, 16, 64)
	if err != nil {
		t.Fatal(err)
	}
	return int(n)
}

func spans(t *testing.T, table string) []span {
	t.Helper()
	var all []span
	for _, line := range strings.Split(strings.TrimSpace(table), "\n") {
		words := strings.Fields(line)
		for _, word := range words[1:] {
			ends, behind, has := strings.Cut(word, "=")
			s := span{head: words[0]}
			if has {
				s.distance = hex(t, behind)
			}
			from, to, two := strings.Cut(ends, "-")
			s.from = hex(t, from)
			s.to = s.from
			if two {
				s.to = hex(t, to)
			}
			all = append(all, s)
		}
	}
	return all
}

// heads lays a table out: of each scalar that stands in it, the word that heads its row.
func heads(t *testing.T, table string) map[int]string {
	t.Helper()
	out := map[int]string{}
	for _, s := range spans(t, table) {
		for atom := s.from; atom <= s.to; atom++ {
			if out[atom] != "" {
				t.Fatalf("%X stands twice", atom)
			}
			out[atom] = s.head
		}
	}
	return out
}

var strange = []int{math.MinInt64, math.MinInt64 + 1, -1 << 40, -1 << 20, -1001, 0x1103E9, 0x1F0000, 1 << 24, 1 << 32, 1<<32 + 'a', 1 << 40, 1<<62 + 0x301, math.MaxInt64 - 1, math.MaxInt64}

// everyInt calls f with all atoms, with the ints around them and with some far from them.
func everyInt(f func(atom int)) {
	for atom := -1000; atom <= 0x110000+1000; atom++ {
		f(atom)
	}
	for _, atom := range strange {
		f(atom)
	}
}

// same holds a call against what is wanted of it, at every int.
func same(t *testing.T, name string, call, want func(int) int) {
	t.Helper()
	wrong := 0
	everyInt(func(atom int) {
		if got, want := call(atom), want(atom); got != want {
			if wrong++; wrong <= 10 {
				t.Errorf("%s(%#x) = %d, want %d", name, atom, got, want)
			}
		}
	})
	if wrong > 10 {
		t.Errorf("%s: %d wrong in all", name, wrong)
	}
}

type example struct{ atom, want int }

func hold(t *testing.T, name string, call func(int) int, examples ...example) {
	t.Helper()
	for _, e := range examples {
		if got := call(e.atom); got != e.want {
			t.Errorf("%s(%#x) = %d, want %d", name, e.atom, got, e.want)
		}
	}
}

// holdEnds asks at both ends of each range of a table and just outside of them; outside an atom may stand in another range.
func holdEnds(t *testing.T, name, table string, call func(int) int, inside func(span) int, outside func(int) int) {
	t.Helper()
	in := heads(t, table)
	for _, s := range spans(t, table) {
		hold(t, name, call, example{s.from, inside(s)}, example{s.to, inside(s)})
		for _, atom := range []int{s.from - 1, s.to + 1} {
			if in[atom] == "" {
				hold(t, name, call, example{atom, outside(atom)})
			}
		}
	}
}

func lone(atom int) bool   { return atom >= 0xD800 && atom <= 0xDFFF }
func scalar(atom int) bool { return atom >= 0 && atom <= 0x10FFFF && !lone(atom) }

var classNames = map[string]int{
	"Control": glyph.Control, "Extend": glyph.Extend, "Regional": glyph.Regional, "Prepend": glyph.Prepend,
	"SpacingMark": glyph.SpacingMark, "HangulL": glyph.HangulL, "HangulV": glyph.HangulV, "HangulT": glyph.HangulT,
	"Pictograph": glyph.Pictograph,
}

// plainClass is P201, rule by rule, over the chapter's table laid out.
func plainClass(table map[int]string) func(int) int {
	return func(atom int) int {
		if !scalar(atom) {
			return glyph.Control
		}
		switch atom {
		case 0xD:
			return glyph.CR
		case 0xA:
			return glyph.LF
		case 0x200D:
			return glyph.Joiner
		}
		if atom >= 0xAC00 && atom <= 0xD7A3 {
			if (atom-0xAC00)%0x1C == 0 {
				return glyph.HangulLV
			}
			return glyph.HangulLVT
		}
		if head := table[atom]; head != "" {
			return classNames[head]
		}
		return glyph.Other
	}
}
