package piece_test

import (
	"math"
	"math/rand"
	"slices"
	"testing"

	"copyist/api"
	"copyist/codec"
)

// All short lists of letters, CRs and LFs: loaded whole, and put together in two and three changes at each place.
func TestBreaksOfShortTexts(t *testing.T) {
	for n := range 7 {
		total := int(math.Pow(3, float64(n)))
		for code := range total {
			atoms := make([]int, n)
			for i, c := 0, code; i < n; i, c = i+1, c/3 {
				atoms[i] = []int{'a', 13, 10}[c%3]
			}
			enc := encodings[code%4]
			b, _, _ := codec.Encode(enc, atoms)
			breaksAll(t, open(t, enc, b, 30), atoms)
			for k := range n + 1 {
				x := open(t, enc, b[:k*codec.Size(enc, 'a')], 30)
				change(t, x, put(k, k, atoms[k:]...))
				breaksAll(t, x, atoms)
				y := open(t, enc, b, 30)
				change(t, y, put(k, k, 'z'))
				breaksAll(t, y, slices.Insert(slices.Clone(atoms), k, 'z'))
				change(t, y, put(k, k+1))
				breaksAll(t, y, atoms)
			}
		}
	}
}

func TestBreaksTogetherAndParted(t *testing.T) {
	for _, enc := range encodings {
		b, _, _ := codec.Encode(enc, []int{'a', 13, 'b', 10, 'c'})
		x := open(t, enc, b, 40)
		if x.Breaks(5) != 2 || x.Seek(2) != 4 {
			t.Errorf("%d: apart: %d, %d", enc, x.Breaks(5), x.Seek(2))
		}
		change(t, x, put(2, 3))
		if x.Breaks(4) != 1 || x.Breaks(2) != 0 || x.Breaks(3) != 1 || x.Seek(1) != 3 || x.Seek(2) != -1 {
			t.Errorf("%d: brought together by taking away", enc)
		}
		change(t, x, put(2, 2, 'z'))
		if x.Breaks(5) != 2 || x.Seek(1) != 2 || x.Seek(2) != 4 {
			t.Errorf("%d: parted by a put", enc)
		}
		change(t, x, put(2, 3, 10))
		if x.Breaks(5) != 2 || x.Seek(1) != 3 || x.Seek(2) != 4 {
			t.Errorf("%d: an LF put behind the CR: CRLF, LF", enc)
		}
		change(t, x, put(3, 3, 13))
		if x.Breaks(9) != 2 || x.Seek(1) != 3 || x.Seek(2) != 5 {
			t.Errorf("%d: a CR put ahead of the LF: CRLF, CRLF", enc)
		}
		change(t, x, put(1, 2))
		if x.Breaks(9) != 2 || x.Seek(1) != 2 || x.Seek(2) != 4 {
			t.Errorf("%d: the first CR taken away: LF, CRLF", enc)
		}
	}
}

func TestBreaksAtAnyInts(t *testing.T) {
	x := open(t, api.UTF8, []byte("a\r\nb\n"), 10)
	for at, want := range map[int]int{math.MinInt: 0, -1: 0, 0: 0, 2: 0, 3: 1, 4: 1, 5: 2, 6: 2, math.MaxInt: 2} {
		if got := x.Breaks(at); got != want {
			t.Errorf("Breaks(%d): %d, want %d", at, got, want)
		}
	}
	for k, want := range map[int]int{math.MinInt: -1, -1: -1, 0: 0, 1: 3, 2: 5, 3: -1, math.MaxInt: -1} {
		if got := x.Seek(k); got != want {
			t.Errorf("Seek(%d): %d, want %d", k, got, want)
		}
	}
}

// Rows of breaks that no single piece holds: the one that is sought may begin at the end of a piece.
func TestBreaksOverManyPieces(t *testing.T) {
	r := rand.New(rand.NewSource(506))
	for _, enc := range encodings {
		for _, unit := range [][]int{{13, 10}, {13}, {10}, {10, 13}, {'a', 13, 10}, {13, 13, 10}} {
			atoms := slices.Repeat(unit, 900/len(unit))
			b, _, _ := codec.Encode(enc, atoms)
			x := open(t, enc, b, 9000)
			breaksAll(t, x, atoms)
			m := modelOf(enc, b, 9000)
			for range 40 {
				at := r.Intn(len(m.atoms))
				edits := []api.Edit{put(at, at+r.Intn(2), [][]int{{13}, {10}, {}, {'a'}}[r.Intn(4)]...)}
				change(t, x, edits...)
				m.change(edits)
			}
			breaksAll(t, x, m.atoms)
		}
	}
}
