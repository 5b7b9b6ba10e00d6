package lines_test

import (
	"math/rand"
	"slices"
	"testing"

	"copyist/api"
	"copyist/codec"
	"copyist/lines"
	"copyist/piece"
)

var (
	encodings = []int{api.UTF8, api.UTF16LE, api.UTF16BE, api.Latin1}
	natives   = []int{api.LF, api.CRLF, api.CR}
)

// letters spells atoms: r is the atom 13, n the atom 10, every other letter itself.
func letters(s string) []int {
	var atoms []int
	for _, c := range s {
		switch c {
		case 'r':
			c = 13
		case 'n':
			c = 10
		}
		atoms = append(atoms, int(c))
	}
	return atoms
}

// short gives all texts of the letters a, r, n with up to so many letters.
func short(most int) []string {
	all := []string{""}
	for from := 0; len(all[from]) < most; from++ {
		all = append(all, all[from]+"a", all[from]+"r", all[from]+"n")
	}
	return all
}

// load opens a text that has these atoms, loaded ones.
func load(t *testing.T, enc int, atoms []int) *piece.Text {
	t.Helper()
	b, at, e := codec.Encode(enc, atoms)
	if e != api.OK {
		t.Fatalf("encoding %d has no bytes for the atom at %d", enc, at)
	}
	x, e := piece.Open(enc, b, api.MaxBytes)
	if e != api.OK {
		t.Fatalf("Open: %d", e)
	}
	if got := x.Atoms(0, x.Len()); !slices.Equal(got, atoms) {
		t.Fatalf("%v is read as %v", atoms, got)
	}
	return x
}

func put(from, to int, atoms ...int) api.Edit { return api.Edit{From: from, To: to, Put: atoms} }

func change(t *testing.T, x *piece.Text, edits ...api.Edit) {
	t.Helper()
	if e := x.Change(edits); e != api.OK {
		t.Fatalf("Change(%v): %d", edits, e)
	}
}

func line(from, to, next, kind int) api.Line {
	return api.Line{From: from, To: to, Next: next, Break: kind}
}

// has tells whether atoms have that one at a place.
func has(atoms []int, at, atom int) bool {
	return at >= 0 && at < len(atoms) && atoms[at] == atom
}

// brk is a break: the atoms from up to to.
type brk struct{ from, to, kind int }

// breaks tells the breaks by DOC.md's definition, each atom looked at for itself.
func breaks(atoms []int) []brk {
	var out []brk
	for i := range atoms {
		switch {
		case atoms[i] == 13 && has(atoms, i+1, 10):
			out = append(out, brk{i, i + 2, 2})
		case atoms[i] == 10 && !has(atoms, i-1, 13):
			out = append(out, brk{i, i + 1, 1})
		case atoms[i] == 13:
			out = append(out, brk{i, i + 1, 3})
		}
	}
	return out
}

// plain tells the lines of a list of atoms, and whether it has a tail.
func plain(atoms []int) ([]api.Line, bool) {
	var out []api.Line
	from := 0
	for _, b := range breaks(atoms) {
		out = append(out, line(from, b.from, b.to, b.kind))
		from = b.to
	}
	n := len(atoms)
	if n > 0 && from == n {
		return out, true
	}
	return append(out, line(from, n, n, 0)), false
}

// told gathers what All tells, and fails where a number is not the next one.
func told(t *testing.T, x *piece.Text) []api.Line {
	t.Helper()
	var out []api.Line
	for i, l := range lines.All(x) {
		if i != len(out) {
			t.Fatalf("All tells the number %d behind %d lines", i, len(out))
		}
		out = append(out, l)
	}
	return out
}

// same holds the text's lines against the definition: all that is told without a place, and each line, at some numbers and offsets or at all of them.
func same(t *testing.T, x *piece.Text, numbers, offsets []int) {
	t.Helper()
	atoms := x.Atoms(0, x.Len())
	want, tail := plain(atoms)
	if got := lines.Count(x); got != len(want) {
		t.Fatalf("Count: %d, want %d", got, len(want))
	}
	if got := told(t, x); !slices.Equal(got, want) {
		t.Fatalf("All: %v, want %v", got, want)
	}
	var kinds [4]int
	for _, l := range want {
		kinds[l.Break]++
	}
	if got := lines.Kinds(x); got != kinds {
		t.Fatalf("Kinds: %v, want %v", got, kinds)
	}
	native := -7
	if all := breaks(atoms); len(all) > 0 {
		native = all[0].kind
	}
	if got := lines.Native(x, -7); got != native {
		t.Fatalf("Native: %d, want %d", got, native)
	}
	for _, i := range numbers {
		sameAt(t, x, i, want, tail)
	}
	for _, at := range offsets {
		sameOf(t, x, at, want)
	}
}

func sameAt(t *testing.T, x *piece.Text, i int, all []api.Line, tail bool) {
	t.Helper()
	n := x.Len()
	want, e := api.Line{}, api.ErrRange
	if i >= 0 && i < len(all) {
		want, e = all[i], api.OK
	}
	if i == len(all) && tail {
		want, e = line(n, n, n, 0), api.OK
	}
	if got, f := lines.At(x, i); got != want || f != e {
		t.Fatalf("At(%d): %v, %d, want %v, %d", i, got, f, want, e)
	}
}

func sameOf(t *testing.T, x *piece.Text, at int, all []api.Line) {
	t.Helper()
	inside := min(max(at, 0), x.Len())
	want := len(all)
	for i, l := range all {
		if l.From <= inside && (inside < l.Next || l.Break == 0) {
			want = i
			break
		}
	}
	if got := lines.Of(x, at); got != want {
		t.Fatalf("Of(%d): %d, want %d", at, got, want)
	}
	if _, e := lines.At(x, want); e != api.OK {
		t.Fatalf("At(Of(%d)): %d", at, e)
	}
}

// sameAll is same at every number and every offset, and at some beyond.
func sameAll(t *testing.T, x *piece.Text) {
	t.Helper()
	var places []int
	for i := -3; i <= x.Len()+3; i++ {
		places = append(places, i)
	}
	same(t, x, places, places)
}

// sameSome is same at some numbers and offsets.
func sameSome(t *testing.T, x *piece.Text, r *rand.Rand) {
	t.Helper()
	count, n := lines.Count(x), x.Len()
	numbers := []int{-1, 0, count - 1, count, count + 1}
	offsets := []int{-1, 0, n - 1, n, n + 1}
	for range 20 {
		numbers = append(numbers, r.Intn(count))
		offsets = append(offsets, r.Intn(n+1))
	}
	same(t, x, numbers, offsets)
}

// someAtoms gives atoms of which a share, in hundredths, are halves of breaks, and others of one byte to four that may be taken for them.
func someAtoms(enc, n, share int, r *rand.Rand) []int {
	others := map[int][]int{
		api.UTF8:    {'a', 0, 11, 12, 0x85, 0x20AC, 0x2028, 0x1F600, -1 - 0xC3},
		api.UTF16LE: {'a', 0, 11, 12, 0x85, 0x0A0D, 0x0D0A, 0x0A00, 0x0D00, 0x2029, 0x1F600, 0xD83D},
		api.UTF16BE: {'a', 0, 11, 12, 0x85, 0x0A0D, 0x0D0A, 0x0A00, 0x0D00, 0x2029, 0x1F600, 0xD83D},
		api.Latin1:  {'a', 0, 11, 12, 0x85, 0xFF},
	}[enc]
	out := make([]int, n)
	for i := range out {
		out[i] = others[r.Intn(len(others))]
		if r.Intn(100) < share {
			out[i] = []int{13, 10}[r.Intn(2)]
		}
	}
	return out
}
