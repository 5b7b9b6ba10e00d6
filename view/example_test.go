package view_test

import (
	"math"
	"testing"

	"copyist/view"
)

// The chapter's table, row by row, not held against the model.

func TestExamplesOfLines(t *testing.T) {
	for _, e := range [][5]int{
		{10, 5, 100, 10, 10}, {10, 5, 100, 14, 10}, {10, 5, 100, 15, 11}, {10, 5, 100, 3, 3},
		{10, 5, 100, 999, 95}, {-3, 0, 0, 7, 0}, {500, 5, 100, 99, 99},
	} {
		if got := view.Follow(e[0], e[1], e[2], e[3]); got != e[4] {
			t.Errorf("P1402: Follow%v = %d, want %d", e[:4], got, e[4])
		}
	}
	for _, e := range [][5]int{
		{10, 3, 5, 100, 13}, {94, 9, 5, 100, 95}, {97, 9, 5, 100, 97}, {97, -9, 5, 100, 88},
		{3, -1 << 63, 5, 100, 0}, {3, 1<<63 - 1, 5, 100, 95},
	} {
		if got := view.Scroll(e[0], e[1], e[2], e[3]); got != e[4] {
			t.Errorf("P1403: Scroll%v = %d, want %d", e[:4], got, e[4])
		}
	}
	for _, e := range [][3]int{{0, 3, 33}, {1, 3, 66}, {2, 3, 100}, {9, 3, 100}, {0, 1, 100}} {
		if got := view.Percent(e[0], e[1]); got != e[2] {
			t.Errorf("P1406: Percent%v = %d, want %d", e[:2], got, e[2])
		}
	}
}

func TestExamplesOfShares(t *testing.T) {
	for _, e := range []struct {
		top  int
		want float64
	}{{0, 0}, {2, 0.5}, {8, 1}} {
		if got := view.Share(e.top, 5, 9); got != e.want {
			t.Errorf("P1404: Share(%d, 5, 9) = %v, want %v", e.top, got, e.want)
		}
	}
	if got := view.Share(3, 5, 5); got != 0 {
		t.Errorf("P1404: Share(3, 5, 5) = %v, want 0", got)
	}
	for _, e := range []struct {
		share float64
		want  int
	}{{0.5, 2}, {0.37, 1}, {0.38, 2}, {math.NaN(), 0}, {7, 4}} {
		if got := view.Drag(e.share, 5, 9); got != e.want {
			t.Errorf("P1405: Drag(%v, 5, 9) = %d, want %d", e.share, got, e.want)
		}
	}
	for _, e := range []struct {
		height int
		part   float64
		want   int
	}{{10, 0.5, 5}, {10, 0.99, 9}, {1, 0.5, 1}, {10, 0.05, 1}, {10, 3, 10}, {10, math.NaN(), 1}, {999, 0.5, 100}} {
		if got := view.Part(e.height, e.part); got != e.want {
			t.Errorf("P1407: Part(%d, %v) = %d, want %d", e.height, e.part, got, e.want)
		}
	}
}

func TestExamplesOfCells(t *testing.T) {
	tabbed := []int{'a', 9, 'b'}
	for _, e := range [][2]int{{0, 0}, {1, 1}, {2, 8}, {3, 9}, {9, 9}} {
		cellIs(t, tabbed, e[0], e[1])
	}
	for _, e := range [][2]int{{-1, 0}, {0, 0}, {1, 1}, {7, 1}, {8, 2}, {9, 3}} {
		atIs(t, tabbed, e[0], e[1])
	}
	for at, want := range []int{0, 0, 2, 4, 8} {
		cellIs(t, []int{0x1F1E6, 0x1F1E7, 0x4E00, -256}, at, want)
	}
	atIs(t, []int{0x301, 0x65}, 0, 1)
	for _, e := range [][2]int{{0, 0}, {1, 2}, {7, 2}, {8, 3}} {
		atIs(t, []int{0x65, 0x301, 9}, e[0], e[1])
	}
}
