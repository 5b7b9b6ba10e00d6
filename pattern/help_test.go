package pattern_test

import (
	"slices"
	"testing"

	"copyist/api"
	"copyist/codec"
	"copyist/pattern"
	"copyist/piece"
)

var encodings = []int{api.UTF8, api.UTF16LE, api.UTF16BE, api.Latin1}

func spell(s string) []int {
	var out []int
	for _, c := range s {
		out = append(out, int(c))
	}
	return out
}

// text is for messages: ints that are no scalars are lost in it.
func text(list []int) string {
	var out []rune
	for _, a := range list {
		out = append(out, rune(a))
	}
	return string(out)
}

func must(t *testing.T, src []int, ignore bool) *pattern.Pattern {
	t.Helper()
	p, at, e := pattern.Compile(src, ignore)
	if p == nil || at != 0 || e != api.OK {
		t.Fatalf("Compile(%q %v): %v, %d, %d", text(src), src, p != nil, at, e)
	}
	return p
}

// refused asks for an error at a place, and for nothing beside it.
func refused(t *testing.T, src []int, place int, want api.Errno) {
	t.Helper()
	for _, ignore := range []bool{false, true} {
		if p, at, e := pattern.Compile(src, ignore); p != nil || at != place || e != want {
			t.Errorf("Compile(%q %v): %v, %d, %d, want %d, %d", text(src), src, p != nil, at, e, place, want)
		}
	}
}

// match is a from and a to, then those of groups; the rest are -1.
func match(ints ...int) [20]int {
	var m [20]int
	for i := range m {
		m[i] = -1
	}
	copy(m[:], ints)
	return m
}

// hold asks for a match from 0 on; nil: there is none.
func hold(t *testing.T, src string, ignore bool, line []int, want []int) {
	t.Helper()
	holdFrom(t, src, ignore, line, 0, want)
}

func holdFrom(t *testing.T, src string, ignore bool, line []int, at int, want []int) {
	t.Helper()
	got, ok := must(t, spell(src), ignore).Match(line, at)
	if want == nil && (ok || got != [20]int{}) || want != nil && (!ok || got != match(want...)) {
		t.Errorf("%q in %q %v from %d: %v, %v, want %v", src, text(line), line, at, got, ok, want)
	}
}

// load opens a text that has these atoms, loaded ones.
func load(t *testing.T, enc int, atoms []int) *piece.Text {
	t.Helper()
	b, at, e := codec.Encode(enc, atoms)
	if e != api.OK {
		t.Fatalf("encoding %d has no bytes for the atom at %d", enc, at)
	}
	x, e := piece.Open(enc, b, api.MaxBytes)
	if e != api.OK {
		t.Fatalf("Open: %d", e)
	}
	if got := x.Atoms(0, x.Len()); !slices.Equal(got, atoms) {
		t.Fatalf("%v is read as %v", atoms, got)
	}
	return x
}

// typed opens a text into which these atoms were put, one by one, the last first.
func typed(t *testing.T, enc int, atoms []int) *piece.Text {
	t.Helper()
	x, _ := piece.Open(enc, nil, api.MaxBytes)
	for _, atom := range slices.Backward(atoms) {
		if e := x.Change([]api.Edit{{Put: []int{atom}}}); e != api.OK {
			t.Fatalf("the atom %d does not go into encoding %d: %d", atom, enc, e)
		}
	}
	return x
}

// short gives all lists of some things with up to so many of them, each list joined.
func short[T any](things [][]T, most int) [][]T {
	all := [][]T{nil}
	for from, to := 0, 1; most > 0; most-- {
		for _, list := range all[from:to] {
			for _, thing := range things {
				all = append(all, slices.Concat(list, thing))
			}
		}
		from, to = to, len(all)
	}
	return all
}

func lettersOf(s string) [][]int {
	var out [][]int
	for _, c := range s {
		out = append(out, []int{int(c)})
	}
	return out
}
