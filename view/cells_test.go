package view_test

import (
	"math"
	"math/rand"
	"testing"

	"copyist/api"
	"copyist/view"
)

func cellIs(t *testing.T, line []int, at, want int) {
	t.Helper()
	if got := view.Cell(line, at); got != want {
		t.Errorf("Cell(%v, %d) = %d, want %d", line, at, got, want)
	}
}

func atIs(t *testing.T, line []int, cell, want int) {
	t.Helper()
	if got := view.At(line, cell); got != want {
		t.Errorf("At(%v, %d) = %d, want %d", line, cell, got, want)
	}
}

// far has offsets and cells that are outside of every line.
var far = []int{math.MinInt64, math.MinInt64 + 1, -mostLines, -1 << 32, -2, -1, 1 << 20, 1 << 32, mostLines, math.MaxInt64 - 1, math.MaxInt64}

// held holds a line against the model at every offset and every cell, and far outside.
func held(t *testing.T, line []int) {
	t.Helper()
	plain := columnsOf(line)
	for at := -1; at <= len(line)+1; at++ {
		cellIs(t, line, at, plain.cellOf(at))
	}
	for cell := -1; cell <= plain.cellOf(len(line))+1; cell++ {
		atIs(t, line, cell, plain.offsetOf(cell))
	}
	for _, n := range far {
		cellIs(t, line, n, plain.cellOf(n))
		atIs(t, line, n, plain.offsetOf(n))
	}
}

// agreed says that Cell and At tell of the same cells.
func agreed(t *testing.T, line []int) {
	t.Helper()
	all := view.Cell(line, len(line))
	for cell := range all {
		at := view.At(line, cell)
		end := at + 1
		for end < len(line) && view.Cell(line, end) == view.Cell(line, at) {
			end++
		}
		if view.Cell(line, at) > cell || cell >= view.Cell(line, end) {
			t.Errorf("At(%v, %d) = %d, with the cells %d up to %d", line, cell, at, view.Cell(line, at), view.Cell(line, end))
		}
	}
	atIs(t, line, all, len(line))
	for _, c := range columnsOf(line).all {
		if c.behind > c.cell {
			atIs(t, line, view.Cell(line, c.at), c.at)
		}
	}
}

// TestWidths, P1408: the cells of one cluster, by hand.
func TestWidths(t *testing.T) {
	for _, e := range []struct {
		cluster []int
		want    int
	}{
		{[]int{'a'}, 1}, {[]int{' '}, 1}, {[]int{0}, 2}, {[]int{8}, 2}, {[]int{10}, 0}, {[]int{13}, 0}, {[]int{27}, 2}, {[]int{0x7F}, 2}, {[]int{0x9F}, 2}, {[]int{0xA0}, 1}, {[]int{0xAD}, 1}, {[]int{0xFEFF}, 1},
		{[]int{0x301}, 0}, {[]int{0x200D}, 0}, {[]int{0x1161}, 0}, {[]int{0x11A8}, 0}, {[]int{0x903}, 1}, {[]int{0x600}, 1},
		{[]int{0x4E00}, 2}, {[]int{0xAC00}, 2}, {[]int{0x1100}, 2}, {[]int{0x1F468}, 2}, {[]int{0x1F1E6}, 1}, {[]int{0x10FFFF}, 1},
		{[]int{-1}, 4}, {[]int{-256}, 4}, {[]int{0xD800}, 6}, {[]int{0xDFFF}, 6},
		{[]int{-257}, 0}, {[]int{0x110000}, 0}, {[]int{9 + 1<<32}, 0}, {[]int{9 - 1<<32}, 0}, {[]int{math.MinInt64}, 0}, {[]int{math.MaxInt64}, 0},
		{[]int{13, 10}, 0}, {[]int{'e', 0x301}, 1}, {[]int{0x301, 0x301}, 0}, {[]int{0x301, 0x200D, 0x301}, 0}, {[]int{0x1161, 0x11A8}, 0},
		{[]int{0x1F1E6, 0x1F1E7}, 2}, {[]int{0x1F1E6, 0x301}, 1}, {[]int{0x4E00, 0x301}, 2}, {[]int{0x915, 0x903}, 2}, {[]int{0x915, 0x94D, 0x915}, 2},
		{[]int{0x600, 0x4E00}, 2}, {[]int{0x600, 0x600, 'a'}, 2}, {[]int{'a', 0x903, 0x903, 0x903}, 2},
		{[]int{0x1F468, 0x200D, 0x1F469}, 2}, {[]int{0x1F468, 0x200D, 0x1F469, 0x200D, 0x1F466}, 2}, {[]int{0x1100, 0x1100, 0x1161, 0x11A8}, 2}, {[]int{0x1100, 0xAC00}, 2}, {[]int{0x4E00, 0x903}, 2},
	} {
		n := len(e.cluster)
		cellIs(t, e.cluster, n, e.want)
		for at := range n {
			cellIs(t, e.cluster, at, 0)
		}
		for cell := range e.want {
			atIs(t, e.cluster, cell, 0)
		}
		atIs(t, e.cluster, e.want, n)
	}
}

// TestTabs, P1408: a tab at every cell, behind clusters of every width.
func TestTabs(t *testing.T) {
	for _, one := range []struct {
		atoms []int
		cells int
	}{{[]int{'a'}, 1}, {[]int{'e', 0x301}, 1}, {[]int{0x4E00}, 2}, {[]int{0x1F1E6, 0x1F1E7}, 2}, {[]int{7}, 2}, {[]int{-256}, 4}, {[]int{0xD800}, 6}, {[]int{0x301}, 0}, {[]int{9}, 8}} {
		var line []int
		for n := range 40 {
			cell := n * one.cells
			if one.atoms[0] == 0x301 && n == 0 {
				line = append(line, 10) // so that what follows is one cluster without a cell
			}
			stop := (cell/8 + 1) * 8
			tabbed := append(append([]int(nil), line...), 9, 'z')
			cellIs(t, tabbed, len(line), cell)
			cellIs(t, tabbed, len(line)+1, stop)
			cellIs(t, tabbed, len(line)+2, stop+1)
			for c := cell; c < stop; c++ {
				atIs(t, tabbed, c, len(line))
			}
			atIs(t, tabbed, stop, len(line)+1)
			atIs(t, tabbed, stop+1, len(line)+2)
			line = append(line, one.atoms...)
		}
	}
	cellIs(t, []int{9, 0x301, 9}, 2, 8) // nothing joins a tab: the accent is a cluster without a cell
	cellIs(t, []int{9, 0x301, 9}, 3, 16)
	cellIs(t, []int{0x600, 9}, 2, 8)
	if api.Tab != 8 {
		t.Fatalf("Tab is %d", api.Tab)
	}
}

// TestInsideOfClusters, P1409 and P1410: an offset in a cluster is at its beginning; every cell of a wide cluster is its own.
func TestInsideOfClusters(t *testing.T) {
	line := []int{'x', 0x1F468, 0x200D, 0x1F469, 'e', 0x301, 0x302, -1, 0xD800, 'y'}
	for at, want := range []int{0, 1, 1, 1, 3, 3, 3, 4, 8, 14, 15, 15} {
		cellIs(t, line, at, want)
	}
	for cell, want := range []int{0, 1, 1, 4, 7, 7, 7, 7, 8, 8, 8, 8, 8, 8, 9, 10, 10} {
		atIs(t, line, cell, want)
	}
}

// TestNoCell, P1410: a cluster that takes no cell is never the answer, but for a cell below 0.
func TestNoCell(t *testing.T) {
	for _, none := range [][]int{{0x301}, {0x301, 0x301}, {10}, {13}, {13, 10}, {0x200D}, {0x1161}, {-257}, {1 << 40}, {10, 10, 13}} {
		n := len(none)
		atIs(t, none, -1, 0)
		atIs(t, none, 0, n)
		atIs(t, none, 1, n)
		before := append(append([]int(nil), none...), 'a')
		atIs(t, before, -1, 0)
		atIs(t, before, math.MinInt64, 0)
		atIs(t, before, 0, n)
		atIs(t, before, 1, n+1)
		behind := append([]int{'a', 10}, none...)
		atIs(t, behind, 0, 0)
		atIs(t, behind, 1, n+2)
		amid := append(append([]int{'a', 10}, none...), 'b')
		atIs(t, amid, 1, n+2)
		atIs(t, amid, 2, n+3)
	}
}

// TestNothing, P1409 and P1410: lists without atoms.
func TestNothing(t *testing.T) {
	for _, line := range [][]int{nil, {}, make([]int, 0, 9)} {
		for _, n := range append([]int{0, 1, 8}, far...) {
			cellIs(t, line, n, 0)
			atIs(t, line, n, 0)
		}
	}
}

// TestShortLines, P1408 to P1410: all lists of up to three atoms of every kind.
func TestShortLines(t *testing.T) {
	var grow func(line []int)
	grow = func(line []int) {
		held(t, line)
		if len(line) == 3 {
			return
		}
		for _, atom := range kinds {
			grow(append(line[:len(line):len(line)], atom))
		}
	}
	grow(nil)
}

// TestRandomLines, P1408 to P1410: longer lists.
func TestRandomLines(t *testing.T) {
	r := rand.New(rand.NewSource(1408))
	for range 2000 {
		line := randomLine(r, 24)
		held(t, line)
		agreed(t, line)
	}
}

// longLines are as long as a text may be, at which looking back from every offset would take a time that grows with the square.
func longLines() [][]int {
	var all [][]int
	for _, row := range [][]int{{'a'}, {9}, {0x301}, {0x1F1E6}, {0x915, 0x94D}, {0x1F468, 0x200D}, {0x200D}, {0x1100}, {-1}, {0x4E00, 0x301, 9}} {
		line := make([]int, api.MaxBytes)
		for i := range line {
			line[i] = row[i%len(row)]
		}
		all = append(all, line)
	}
	return all
}

// TestLongLines, P1408 to P1410: at lines that only a scanner gets through which never looks back past a boundary.
func TestLongLines(t *testing.T) {
	for _, line := range longLines() {
		plain := columnsOf(line)
		cells := plain.cellOf(len(line))
		for _, at := range []int{0, 1, 2, len(line) / 2, len(line) - 1, len(line), math.MaxInt64} {
			if got, want := view.Cell(line, at), plain.cellOf(at); got != want {
				t.Errorf("%x..: Cell at %d is %d, want %d", line[:3], at, got, want)
			}
		}
		for _, cell := range []int{-1, 0, 1, cells / 2, cells - 1, cells, math.MaxInt64} {
			if got, want := view.At(line, cell), plain.offsetOf(cell); got != want {
				t.Errorf("%x..: At of %d is %d, want %d", line[:3], cell, got, want)
			}
		}
	}
}
