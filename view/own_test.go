package view_test

import (
	"math/rand"
	"slices"
	"sync"
	"testing"

	"copyist/view"
)

// TestListStays, P1411: a list that is handed in is not changed, and its spare room neither.
func TestListStays(t *testing.T) {
	r := rand.New(rand.NewSource(1411))
	for range 500 {
		room := append(randomLine(r, 20), 77, 'x', 9, 0x301, 78)
		was := slices.Clone(room)
		line := room[: len(room)-5 : len(room)]
		for n := -1; n <= len(line)+1; n++ {
			view.Cell(line, n)
		}
		for n := -1; n <= 8*len(line)+1; n++ {
			view.At(line, n)
		}
		if !slices.Equal(room, was) {
			t.Fatalf("the list %v is now %v", was, room)
		}
	}
}

// TestSpareRoomUnread, P1411: what stands in the spare room has no say.
func TestSpareRoomUnread(t *testing.T) {
	for _, spare := range kinds {
		room := []int{'e', 0x301, 9, 0x1F1E6, spare, spare}
		line := room[:4]
		for at, want := range []int{0, 0, 1, 8, 9, 9} {
			cellIs(t, line, at, want)
		}
		atIs(t, line, 8, 3)
		atIs(t, line, 9, 4)
	}
}

// TestListIsNotKept, P1411: the same memory with other atoms is another list.
func TestListIsNotKept(t *testing.T) {
	r := rand.New(rand.NewSource(41))
	line := make([]int, 12)
	for range 300 {
		for i := range line {
			line[i] = kinds[r.Intn(len(kinds))]
		}
		part := line[:r.Intn(len(line)+1)]
		held(t, part)
		other := randomLine(r, 12)
		n := r.Intn(14)
		cell, at := view.Cell(part, n), view.At(part, n)
		view.Cell(other, n)
		view.At(other, n)
		cellIs(t, part, n, cell)
		atIs(t, part, n, at)
	}
}

// TestSideBySide, P1411: calls on one list at the same time are nothing to each other.
func TestSideBySide(t *testing.T) {
	line := []int{'a', 9, 0x1F1E6, 0x1F1E7, -1, 'e', 0x301}
	var group sync.WaitGroup
	for range 8 {
		group.Go(func() {
			for range 200 {
				for at, want := range []int{0, 1, 8, 8, 10, 14, 14, 15} {
					cellIs(t, line, at, want)
				}
				atIs(t, line, 9, 2)
			}
		})
	}
	group.Wait()
}
