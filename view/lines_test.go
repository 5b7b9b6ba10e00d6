package view_test

import (
	"math"
	"testing"

	"copyist/api"
	"copyist/view"
)

func followIs(t *testing.T, top, height, lines, line, want int) {
	t.Helper()
	if got := view.Follow(top, height, lines, line); got != want {
		t.Errorf("Follow(%d, %d, %d, %d) = %d, want %d", top, height, lines, line, got, want)
	}
}

func scrollIs(t *testing.T, top, by, height, lines, want int) {
	t.Helper()
	if got := view.Scroll(top, by, height, lines); got != want {
		t.Errorf("Scroll(%d, %d, %d, %d) = %d, want %d", top, by, height, lines, got, want)
	}
}

func percentIs(t *testing.T, line, lines, want int) {
	t.Helper()
	if got := view.Percent(line, lines); got != want {
		t.Errorf("Percent(%d, %d) = %d, want %d", line, lines, got, want)
	}
}

func shareIs(t *testing.T, top, height, lines int, want float64) {
	t.Helper()
	if got := view.Share(top, height, lines); got != want || math.Signbit(got) {
		t.Errorf("Share(%d, %d, %d) = %v, want %v", top, height, lines, got, want)
	}
}

// TestTaken, P1401: the edges of what is taken, in every argument, by hand.
func TestTaken(t *testing.T) {
	if api.MaxRows != mostRows {
		t.Fatalf("MaxRows is %d", api.MaxRows)
	}
	for _, lines := range []int{math.MinInt64, -1, 0, 1} {
		followIs(t, 9, 5, lines, 9, 0)
		scrollIs(t, 9, 9, 1, lines, 0)
		shareIs(t, 9, 1, lines, 0)
		dragIs(t, 1, 1, lines, 0)
		percentIs(t, 0, lines, 100)
	}
	for _, lines := range []int{mostLines, mostLines + 1, math.MaxInt64} {
		followIs(t, 0, 1, lines, math.MaxInt64, mostLines-1)
		scrollIs(t, 0, math.MaxInt64, 1, lines, mostLines-1)
		scrollIs(t, math.MaxInt64, math.MaxInt64, 200, lines, mostLines-1)
		shareIs(t, (mostLines-200)/2, 200, lines, 0.5)
		dragIs(t, 1, 1, lines, mostLines-1)
		percentIs(t, mostLines/4-1, lines, 25)
	}
	for _, height := range []int{math.MinInt64, -1, 0, 1} {
		followIs(t, 3, height, 10, 4, 4)
		scrollIs(t, 0, 99, height, 10, 9)
		shareIs(t, 3, height, 7, 0.5)
		dragIs(t, 1, height, 10, 9)
		partIs(t, height, 1, 1)
	}
	for _, height := range []int{200, 201, math.MaxInt64} {
		followIs(t, 0, height, 1000, 199, 0)
		followIs(t, 0, height, 1000, 200, 1)
		scrollIs(t, 0, 9999, height, 1000, 800)
		shareIs(t, 400, height, 1000, 0.5)
		dragIs(t, 1, height, 1000, 800)
		partIs(t, height, 1, 200)
	}
	for _, low := range []int{math.MinInt64, -1, 0} {
		followIs(t, low, 5, 100, 4, 0)
		followIs(t, 7, 5, 100, low, 0)
		scrollIs(t, low, 3, 5, 100, 3)
		scrollIs(t, low, math.MinInt64, 5, 100, 0)
		shareIs(t, low, 5, 100, 0)
		percentIs(t, low, 50, 2)
	}
	for _, high := range []int{99, 100, math.MaxInt64} {
		followIs(t, high, 5, 100, 99, 99)
		followIs(t, 0, 5, 100, high, 95)
		scrollIs(t, high, 3, 5, 100, 99)
		scrollIs(t, high, -3, 5, 100, 96)
		shareIs(t, high, 5, 100, 1)
		percentIs(t, high, 100, 100)
	}
}

// TestAnyNumber, P1401 to P1404 and P1406: all of the wild numbers, in every argument.
func TestAnyNumber(t *testing.T) {
	for _, lines := range wild {
		for _, number := range wild {
			percentIs(t, number, lines, plainPercent(t, number, lines))
			for _, height := range wild {
				shareIs(t, number, height, lines, plainShare(number, height, lines))
				for _, other := range wild {
					followIs(t, number, height, lines, other, plainFollow(t, number, height, lines, other))
					scrollIs(t, number, other, height, lines, plainScroll(t, number, other, height, lines))
				}
			}
		}
	}
}

func distance(a, b int) int { return max(a-b, b-a) }

// TestFollowNearest, P1402: of all tops at which the line is seen, the nearest one; above, in and below the window.
func TestFollowNearest(t *testing.T) {
	for lines := 1; lines <= 12; lines++ {
		for height := 1; height <= 14; height++ {
			for top := range lines {
				for line := range lines {
					best := math.MaxInt
					for first := range lines {
						if first <= line && line < first+height && distance(first, top) < distance(best, top) {
							best = first
						}
					}
					followIs(t, top, height, lines, line, best)
				}
			}
		}
	}
}

// TestScrollByOnes, P1403: a step of so many lines is as many steps of one.
func TestScrollByOnes(t *testing.T) {
	for lines := 1; lines <= 12; lines++ {
		for height := 1; height <= 14; height++ {
			for top := range lines {
				down, up := top, top
				for by := range 30 {
					scrollIs(t, top, by, height, lines, down)
					scrollIs(t, top, -by, height, lines, up)
					if down+height < lines {
						down++
					}
					if up > 0 {
						up--
					}
				}
			}
		}
	}
}

// TestScrollBelowBottom, P1403: a window that stands below the bottom never goes up by a step down.
func TestScrollBelowBottom(t *testing.T) {
	for _, by := range []int{0, 1, 200, mostLines, math.MaxInt64} {
		scrollIs(t, 7, by, 10, 8, 7)
		scrollIs(t, mostLines-1, by, 200, mostLines, mostLines-1)
		scrollIs(t, mostLines-200, by, 200, mostLines, mostLines-200)
	}
	scrollIs(t, 7, -1, 10, 8, 6)
	scrollIs(t, mostLines-1, -1, 200, mostLines, mostLines-2)
	scrollIs(t, mostLines-201, 1, 200, mostLines, mostLines-200)
	scrollIs(t, mostLines-201, 2, 200, mostLines, mostLines-200)
}

// TestPercentCounts, P1406: it is n just if n hundredths of the lines, and not n + 1 of them, end with this one.
func TestPercentCounts(t *testing.T) {
	for lines := 1; lines <= 300; lines++ {
		percentIs(t, lines-1, lines, 100)
		for line := range lines {
			got := view.Percent(line, lines)
			if got*lines > 100*(line+1) || (got+1)*lines <= 100*(line+1) {
				t.Errorf("Percent(%d, %d) = %d", line, lines, got)
			}
		}
	}
}

// TestPercentOfLongTexts, P1406: at both sides of every line at which it grows; and the float64 of the chapter is the same.
func TestPercentOfLongTexts(t *testing.T) {
	for _, lines := range []int{101, 65536, 65537, 999999937, 1<<32 - 1, 1 << 32, 1<<39 + 1, mostLines - 200, mostLines - 99, mostLines - 1, mostLines} {
		percentIs(t, 0, lines, 0)
		percentIs(t, lines-1, lines, 100)
		for percent := 1; percent <= 100; percent++ {
			first := (percent*lines+99)/100 - 1
			percentIs(t, first, lines, percent)
			percentIs(t, first-1, lines, percent-1)
			for _, line := range []int{first - 1, first} {
				percentIs(t, line, lines, int(float64(100*(line+1))/float64(lines)))
			}
		}
	}
}
