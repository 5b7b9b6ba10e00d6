package view_test

import (
	"math"
	"math/big"
	"math/rand"
	"testing"

	"copyist/api"
	"copyist/cluster"
	"copyist/glyph"
)

const (
	mostLines = 1 << 40
	mostRows  = 200
)

// wild has the numbers at the edges of what is taken, their neighbours, and both ends of int64.
var wild = []int{
	math.MinInt64, math.MinInt64 + 1, -mostLines - 1, -mostLines, -201, -200, -1, 0, 1, 2, 5, 100, 199, 200, 201,
	mostLines/2 - 1, mostLines / 2, mostLines - 201, mostLines - 200, mostLines - 199, mostLines - 2, mostLines - 1, mostLines, mostLines + 1,
	math.MaxInt64 - mostLines, math.MaxInt64 - 1, math.MaxInt64,
}

// The sums of what follows are made of numbers that never end, and each cut stands where the chapter has it.

func whole(n int) *big.Int { return big.NewInt(int64(n)) }

func sum(a, b *big.Int) *big.Int { return new(big.Int).Add(a, b) }

func less(a, b *big.Int) *big.Int { return new(big.Int).Sub(a, b) }

func lesser(a, b *big.Int) *big.Int {
	if a.Cmp(b) < 0 {
		return a
	}
	return b
}

func greater(a, b *big.Int) *big.Int {
	if a.Cmp(b) < 0 {
		return b
	}
	return a
}

func number(t *testing.T, n *big.Int) int {
	t.Helper()
	if !n.IsInt64() {
		t.Fatalf("the model leaves int64: %v", n)
	}
	return int(n.Int64())
}

// frame is a window's numbers as they are taken.
type frame struct{ top, height, lines, bottom *big.Int }

func taken(top, height, lines int) frame {
	f := frame{}
	f.lines = lesser(greater(whole(lines), whole(1)), whole(mostLines))
	f.height = lesser(greater(whole(height), whole(1)), whole(mostRows))
	f.top = f.line(top)
	f.bottom = greater(less(f.lines, f.height), whole(0))
	return f
}

func (f frame) line(n int) *big.Int {
	return lesser(greater(whole(n), whole(0)), less(f.lines, whole(1)))
}

func plainFollow(t *testing.T, top, height, lines, line int) int {
	t.Helper()
	f := taken(top, height, lines)
	n := f.line(line)
	first := f.top
	if n.Cmp(f.top) < 0 {
		first = n
	} else if n.Cmp(sum(f.top, f.height)) >= 0 {
		first = sum(less(n, f.height), whole(1))
	}
	return number(t, first)
}

func plainScroll(t *testing.T, top, by, height, lines int) int {
	t.Helper()
	f := taken(top, height, lines)
	if by < 0 {
		return number(t, greater(sum(f.top, whole(by)), whole(0)))
	}
	return number(t, greater(lesser(sum(f.top, whole(by)), f.bottom), f.top))
}

// plainShare is the float64 that is nearest to the share.
func plainShare(top, height, lines int) float64 {
	f := taken(top, height, lines)
	if f.bottom.Sign() == 0 {
		return 0
	}
	share, _ := new(big.Rat).SetFrac(lesser(f.top, f.bottom), f.bottom).Float64()
	return share
}

// step is a number of as many digits as a float64 has: what is made of it is rounded as there.
func step(x float64) *big.Float { return new(big.Float).SetPrec(53).SetFloat64(x) }

func wholePart(x *big.Float) *big.Int {
	n, _ := x.Int(nil)
	return n
}

func plainDrag(t *testing.T, share float64, height, lines int) int {
	t.Helper()
	b := taken(0, height, lines).bottom
	switch {
	case share != share, share <= 0:
		return 0
	case share >= 1:
		return number(t, b)
	}
	product := step(0).Mul(step(share), step(float64(b.Int64())))
	return number(t, lesser(wholePart(step(0).Add(product, step(0.5))), b))
}

func plainPercent(t *testing.T, line, lines int) int {
	t.Helper()
	f := taken(0, 1, lines)
	ends := new(big.Int).Mul(whole(100), sum(f.line(line), whole(1)))
	return number(t, ends.Quo(ends, f.lines))
}

func plainPart(t *testing.T, height int, part float64) int {
	t.Helper()
	h := taken(0, height, 1).height
	switch {
	case part != part, part <= 0:
		return 1
	case part >= 1:
		return number(t, h)
	}
	return number(t, greater(wholePart(step(0).Mul(step(float64(h.Int64())), step(part))), whole(1)))
}

// column is a cluster of a line and the cells that it takes.
type column struct{ at, end, cell, behind int }

// columns are all clusters of a line of so many atoms.
type columns struct {
	all    []column
	length int
}

func columnsOf(line []int) columns {
	l := columns{length: len(line)}
	cell := 0
	breaks := cluster.Breaks(line)
	for i, end := range breaks[1:] {
		behind := cell + plainWidth(line[breaks[i]:end], cell)
		l.all = append(l.all, column{breaks[i], end, cell, behind})
		cell = behind
	}
	return l
}

func plainWidth(atoms []int, cell int) int {
	width := 0
	if len(atoms) == 1 && atoms[0] == 9 {
		for width = 1; (cell+width)%api.Tab != 0; width++ {
		}
		return width
	}
	for _, atom := range atoms {
		width += glyph.Width(atom)
	}
	if len(atoms) > 1 && width > 2 {
		return 2
	}
	return width
}

func (l columns) cellOf(at int) int {
	cells := 0
	for _, c := range l.all {
		if c.end <= at {
			cells += c.behind - c.cell
		}
	}
	return cells
}

func (l columns) offsetOf(cell int) int {
	if cell < 0 {
		return 0
	}
	for _, c := range l.all {
		if c.cell <= cell && cell < c.behind {
			return c.at
		}
	}
	return l.length
}

// kinds has an atom of every class and every width, the tab, breaks, raw bytes, lone units, and ints that are no atoms.
var kinds = []int{
	'a', 9, 10, 13, 7, 0xAD, 0x301, 0x200D, 0x1F1E6, 0x600, 0x903, 0x1100, 0x1161, 0x11A8, 0xAC00, 0xAC01,
	0x1F468, 0x915, 0x94D, 0x4E00, -1, -256, 0xD800, -257, 0x110000, math.MinInt64, math.MaxInt64,
}

// randomLine is a line of a few kinds, so that clusters of several atoms are many.
func randomLine(r *rand.Rand, most int) []int {
	some := make([]int, 1+r.Intn(6))
	for i := range some {
		some[i] = kinds[r.Intn(len(kinds))]
	}
	line := make([]int, r.Intn(most+1))
	for i := range line {
		line[i] = some[r.Intn(len(some))]
	}
	return line
}
