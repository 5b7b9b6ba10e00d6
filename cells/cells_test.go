package cells_test

import (
	"iter"
	"math/rand"
	"slices"
	"testing"

	"copyist/api"
	"copyist/cells"
	"copyist/cluster"
	"copyist/codec"
	"copyist/piece"
)

func load(t *testing.T, enc int, atoms []int) *piece.Text {
	t.Helper()
	b, at, e := codec.Encode(enc, atoms)
	if e != api.OK {
		t.Fatalf("encoding %d has no bytes for the atom at %d", enc, at)
	}
	x, e := piece.Open(enc, b, api.MaxBytes)
	if e != api.OK || x.Len() != len(atoms) {
		t.Fatalf("Open: %d", e)
	}
	return x
}

// all is the list of cells by the boundaries of the whole text.
func all(atoms []int) []cells.Cell {
	var out []cells.Cell
	bounds := cluster.Breaks(atoms)
	for i := range len(bounds) - 1 {
		out = append(out, cells.Cell{At: bounds[i], End: bounds[i+1], Atom: atoms[bounds[i]]})
	}
	return out
}

// line is what is left of a list up to its first break.
func line(list []cells.Cell) []cells.Cell {
	if i := slices.IndexFunc(list, func(c cells.Cell) bool { return c.Atom == 10 || c.Atom == 13 }); i >= 0 {
		return list[:i]
	}
	return list
}

func check(t *testing.T, x *piece.Text, atoms []int) {
	t.Helper()
	want := all(atoms)
	same := func(name string, at int, got iter.Seq[cells.Cell], want []cells.Cell) {
		t.Helper()
		if g := slices.Collect(got); !slices.Equal(g, want) {
			t.Fatalf("%v: %s from %d: %v, want %v", atoms, name, at, g, want)
		}
		for i := range min(len(want), 2) { // left early
			k := 0
			for c := range got {
				if k++; c != want[k-1] {
					t.Fatalf("%v: %s from %d: %v", atoms, name, at, c)
				}
				if k > i {
					break
				}
			}
		}
	}
	for i := range len(want) + 1 {
		at := len(atoms)
		if i < len(want) {
			at = want[i].At
		}
		down := slices.Clone(want[:i])
		slices.Reverse(down)
		same("Up", at, cells.Up(x, at), want[i:])
		same("Down", at, cells.Down(x, at), down)
		same("Within Up", at, cells.Within(cells.Up(x, at)), line(want[i:]))
		same("Within Down", at, cells.Within(cells.Down(x, at)), line(down))
	}
	for _, c := range want {
		for at := c.At; at < c.End; at++ {
			if got := cells.Of(x, at); got != c {
				t.Fatalf("%v: Of(%d): %v, want %v", atoms, at, got, c)
			}
		}
	}
	if n := len(atoms); cells.Of(x, n) != (cells.Cell{At: n, End: n}) {
		t.Fatalf("%v: Of(%d): %v", atoms, n, cells.Of(x, n))
	}
}

// letters has one atom of each sort that the rules of clusters know.
var letters = []int{'a', 10, 13, 0x301, 0x200D, 0x1F1E6, 0x600, 0x903, 0x1100, 0x1161, 0x11A8, 0xAC00, 0xAC01, 0x1F468, 0x915, 0x94D, 0x93C, 0x200B}

func TestShortTexts(t *testing.T) {
	t.Parallel()
	check(t, load(t, api.UTF8, nil), nil)
	for _, a := range letters {
		for _, b := range letters {
			for _, c := range letters {
				atoms := []int{a, b, c}
				check(t, load(t, api.UTF8, atoms), atoms)
			}
		}
	}
}

// Rows in which a boundary hangs on what stands far ahead, around the ends of what is read at once.
func TestLongRows(t *testing.T) {
	t.Parallel()
	r := rand.New(rand.NewSource(9))
	rows := [][]int{{'a'}, {10}, {13, 10}, {0x301}, {0x1F1E6}, {0x1F468, 0x200D}, {0x915, 0x94D}, {0x915, 0x93C, 0x94D}, {0x1100}, {0x600}, {0x200B}, {0x200D}}
	for i := range 240 {
		var atoms []int
		for range 1 + i%3 {
			atoms = append(atoms, letters[r.Intn(len(letters))])
			atoms = append(atoms, slices.Repeat(rows[r.Intn(len(rows))], 1+r.Intn(75))...)
		}
		atoms = append(atoms, letters[r.Intn(len(letters))])
		check(t, load(t, []int{api.UTF8, api.UTF16LE, api.UTF16BE}[i%3], atoms), atoms)
	}
	raw := []int{-1 - 0xC3, 0x301, 'a', -1 - 0xFF}
	check(t, load(t, api.UTF8, raw), raw)
	lone := []int{0xD800, 0x301, 'a', 0xDFFF}
	check(t, load(t, api.UTF16LE, lone), lone)
}

func TestWhatACellIs(t *testing.T) {
	for _, c := range []struct {
		cell                cells.Cell
		isBreak, single, is bool
	}{
		{cells.Cell{At: 3, End: 4, Atom: '('}, false, true, true},
		{cells.Cell{At: 3, End: 5, Atom: '('}, false, false, false},
		{cells.Cell{At: 3, End: 4, Atom: ')'}, false, true, false},
		{cells.Cell{At: 0, End: 1, Atom: 10}, true, true, false},
		{cells.Cell{At: 0, End: 1, Atom: 13}, true, true, false},
		{cells.Cell{At: 0, End: 2, Atom: 13}, true, false, false},
		{cells.Cell{At: 9, End: 9}, false, false, false},
	} {
		if c.cell.IsBreak() != c.isBreak || c.cell.IsSingle() != c.single || c.cell.Is('(') != c.is {
			t.Errorf("%+v: %v %v %v", c.cell, c.cell.IsBreak(), c.cell.IsSingle(), c.cell.Is('('))
		}
	}
}
