package view_test

import (
	"math"
	"math/rand"
	"testing"

	"copyist/view"
)

func dragIs(t *testing.T, share float64, height, lines, want int) {
	t.Helper()
	if got := view.Drag(share, height, lines); got != want {
		t.Errorf("Drag(%v, %d, %d) = %d, want %d", share, height, lines, got, want)
	}
}

func partIs(t *testing.T, height int, part float64, want int) {
	t.Helper()
	if got := view.Part(height, part); got != want {
		t.Errorf("Part(%d, %v) = %d, want %d", height, part, got, want)
	}
}

func above(x float64) float64 { return math.Nextafter(x, math.Inf(1)) }

func below(x float64) float64 { return math.Nextafter(x, math.Inf(-1)) }

// none are the shares that are taken as 0, full those that are taken as 1.
var (
	none = []float64{math.NaN(), -math.NaN(), math.Float64frombits(0x7FF0000000000001), math.Inf(-1), -math.MaxFloat64, -1 << 63, -2, above(-1), -1, below(-1), -0.5, -math.SmallestNonzeroFloat64, math.Copysign(0, -1), 0}
	full = []float64{1, above(1), 1.5, 2, 1 << 40, 1 << 62, 1 << 63, 1 << 64, math.MaxFloat64, math.Inf(1)}
)

// between are shares from 0 to 1, at the edges and inside.
func between() []float64 {
	shares := []float64{math.SmallestNonzeroFloat64, 2.2250738585072014e-308, 1e-300, 1.0 / (1 << 41), 1e-9}
	for _, x := range []float64{0.005, 0.01, 0.05, 0.1, 0.125, 0.2, 0.25, 0.3, 0.35, 1.0 / 3, 0.37, 0.38, 0.5, 0.6, 2.0 / 3, 0.7, 0.75, 0.9, 0.99, 0.995} {
		shares = append(shares, below(x), x, above(x))
	}
	return append(shares, below(below(1)), below(1))
}

var someHeights = []int{math.MinInt64, -1, 0, 1, 2, 3, 5, 10, 100, 128, 129, 199, 200, 201, math.MaxInt64}

var someLines = []int{math.MinInt64, 0, 1, 2, 3, 5, 6, 9, 100, 199, 200, 201, 202, 203, 1000, 65537, 1<<32 + 1, mostLines - 1, mostLines, mostLines + 1, math.MaxInt64}

// TestShareRange, P1404: from 0 at the first line to 1 at the bottom and below it, never falling; 0 where the bottom is 0.
func TestShareRange(t *testing.T) {
	for lines := 1; lines <= 40; lines++ {
		for height := 1; height <= 42; height++ {
			was := 0.0
			shareIs(t, 0, height, lines, 0)
			for top := range lines {
				share := view.Share(top, height, lines)
				if !(share >= was && share <= 1) {
					t.Errorf("Share(%d, %d, %d) = %v behind %v", top, height, lines, share, was)
				}
				switch last := lines - height; {
				case last <= 0:
					shareIs(t, top, height, lines, 0)
				case top >= last:
					shareIs(t, top, height, lines, 1)
				default:
					shareIs(t, top, height, lines, float64(top)/float64(last))
				}
				was = share
			}
		}
	}
	shareIs(t, mostLines-201, 200, mostLines, (mostLines-201.0)/(mostLines-200.0))
	shareIs(t, 1, 1, mostLines, 1.0/(mostLines-1))
}

// TestDragEnds, P1405: NaN, the infinities, the zeros and all numbers outside of 0 to 1.
func TestDragEnds(t *testing.T) {
	for _, height := range someHeights {
		for _, lines := range someLines {
			last := number(t, taken(0, height, lines).bottom)
			for _, share := range none {
				dragIs(t, share, height, lines, 0)
			}
			for _, share := range full {
				dragIs(t, share, height, lines, last)
			}
			for _, share := range between() {
				dragIs(t, share, height, lines, plainDrag(t, share, height, lines))
			}
		}
	}
	dragIs(t, math.SmallestNonzeroFloat64, 1, mostLines, 0)
	dragIs(t, below(1), 1, mostLines, mostLines-1)
	dragIs(t, below(1), 1, 2, 1)
	dragIs(t, below(1)-1.0/mostLines, 1, mostLines, mostLines-2)
}

// TestDragHalves, P1405: the halves between two tops and their neighbours, by each step's own rounding.
func TestDragHalves(t *testing.T) {
	for _, last := range []int{1, 2, 3, 4, 5, 7, 10, 99, 100, 1000, 65535, 1<<32 + 1, mostLines - 200, mostLines - 2, mostLines - 1} {
		for _, top := range []int{0, 1, 2, 3, last / 3, last / 2, last - 3, last - 2, last - 1} {
			if top < 0 || top >= last {
				continue
			}
			share := (float64(top) + 0.5) / float64(last)
			for _, x := range []float64{below(below(share)), below(share), share, above(share), above(above(share))} {
				dragIs(t, x, 1, last+1, plainDrag(t, x, 1, last+1))
			}
		}
	}
	// Just below a half the sum is rounded up to a whole number.
	dragIs(t, 0.5, 1, 2, 1)
	dragIs(t, below(0.5), 1, 2, 1)
	dragIs(t, below(below(0.5)), 1, 2, 0)
	dragIs(t, below(0.25), 1, 3, 1)
	dragIs(t, below(below(0.25)), 1, 3, 0)
}

// TestDragRoundsTwice, P1405: shares at which a product and a sum that are rounded as one give another line.
func TestDragRoundsTwice(t *testing.T) {
	found := 0
	for last := 1; last <= 3000; last++ {
		share := 0.5 / float64(last)
		for _, x := range []float64{below(below(share)), below(share), share} {
			once := int(math.FMA(x, float64(last), 0.5))
			twice := plainDrag(t, x, 1, last+1)
			if once != twice {
				found++
			}
			dragIs(t, x, 1, last+1, twice)
		}
	}
	if found == 0 {
		t.Error("no share tells one rounding from two")
	}
}

func backIs(t *testing.T, top, height, lines int) {
	t.Helper()
	f := taken(top, height, lines)
	dragIs(t, view.Share(top, height, lines), height, lines, number(t, lesser(f.top, f.bottom)))
}

// TestDragOfShare, P1405: dragged to its share a window stands where it stood, or at the bottom.
func TestDragOfShare(t *testing.T) {
	for lines := 1; lines <= 60; lines++ {
		for height := 1; height <= 61; height++ {
			for top := range lines {
				backIs(t, top, height, lines)
			}
		}
	}
	for _, top := range wild {
		for _, height := range wild {
			for _, lines := range wild {
				backIs(t, top, height, lines)
			}
		}
	}
	r := rand.New(rand.NewSource(14))
	for range 100000 {
		lines := mostLines - r.Intn(1<<r.Intn(40))
		if r.Intn(2) == 0 {
			lines = 1 + r.Intn(1<<r.Intn(41))
		}
		height := 1 + r.Intn(mostRows)
		backIs(t, r.Intn(lines), height, lines)
		backIs(t, lines-height-r.Intn(3), height, lines)
	}
}

// TestDragRandom, P1405: any bits as a share.
func TestDragRandom(t *testing.T) {
	r := rand.New(rand.NewSource(1405))
	for range 50000 {
		share := r.Float64()
		if r.Intn(3) == 0 {
			share = math.Float64frombits(r.Uint64())
		}
		height, lines := someHeights[r.Intn(len(someHeights))], 1+r.Intn(1<<r.Intn(41))
		dragIs(t, share, height, lines, plainDrag(t, share, height, lines))
	}
}

// TestPart, P1407: NaN, the infinities, the zeros, and all parts between, of every height.
func TestPart(t *testing.T) {
	heights := append([]int(nil), wild...)
	for height := range 203 {
		heights = append(heights, height)
	}
	for _, height := range heights {
		for _, part := range none {
			partIs(t, height, part, 1)
		}
		for _, part := range full {
			partIs(t, height, part, number(t, taken(0, height, 1).height))
		}
		for _, part := range between() {
			partIs(t, height, part, plainPart(t, height, part))
		}
	}
}

// TestPartOfWhole, P1407: parts whose product is a whole number, or just below one, or rounded to one.
func TestPartOfWhole(t *testing.T) {
	for height := 1; height <= mostRows; height++ {
		for rows := 1; rows <= height; rows++ {
			part := float64(rows) / float64(height)
			for _, x := range []float64{below(below(part)), below(part), part, above(part)} {
				partIs(t, height, x, plainPart(t, height, x))
			}
		}
		partIs(t, height, below(1), max(height-1, 1))
	}
	partIs(t, 10, 0.3, 3) // 0.3 is less than three tenths, the product is rounded up to 3
	partIs(t, 10, below(0.3), 2)
	partIs(t, 200, 0.005, 1)
	partIs(t, 200, below(0.01), 1)
	partIs(t, 200, 0.01, 2)
	partIs(t, 4, below(0.75), 2)
	partIs(t, 4, 0.75, 3)
}
