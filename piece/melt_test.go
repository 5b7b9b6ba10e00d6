package piece_test

import (
	"math/rand"
	"slices"
	"testing"

	"copyist/api"
	"copyist/codec"
)

// rows of atoms whose bytes mean something else when they are read in one.
var meltingRows = map[int][][]int{
	api.UTF8: {
		{-1 - 0xC3, -1 - 0xA9},
		{-1 - 0xE2, -1 - 0x82, -1 - 0xAC},
		{-1 - 0xF0, -1 - 0x9F, -1 - 0x98, -1 - 0x80},
		{'a', -1 - 0xC3, -1 - 0xA9, -1 - 0xC3, -1 - 0xA9, 'b'},
		{-1 - 0xE2, -1 - 0x82, -1 - 0xC3, -1 - 0xA9, -1 - 0xAC},
	},
	api.UTF16LE: {
		{0xD83D, 0xDE00}, {-11, -1}, {-1, 'a', 'b'}, {'a', -1, -2, -3, 'b'}, {-62, 0xD83D, 0xDE00, -1}, {0xD83D, 0xD83D, 0xDE00, 0xDE00}, {-14, -11, 13, -1, 10},
	},
	api.UTF16BE: {
		{0xD83D, 0xDE00}, {-1, -11}, {-1, 'a', 'b'}, {'a', -1, -2, -3, 'b'}, {-62, 0xD83D, 0xDE00, -1}, {0xD83D, 0xD83D, 0xDE00, 0xDE00}, {-14, -11, 13, -1, 10},
	},
}

func minusOnes(n int) []int { return slices.Repeat([]int{-1}, n) }

func TestNothingMeltsInOnePut(t *testing.T) {
	for enc, rows := range meltingRows {
		for _, row := range rows {
			x := open(t, enc, nil, 100)
			change(t, x, put(0, 0, row...))
			shows(t, x, row, minusOnes(len(row)))
			breaksAll(t, x, row)
			// Their bytes, loaded anew, do mean something else.
			again := open(t, enc, x.Bytes(), 100)
			if slices.Equal(again.Atoms(0, 100), row) {
				t.Errorf("encoding %d: %v is no row that melts", enc, row)
			}
		}
	}
}

func TestNothingMeltsPutOneByOne(t *testing.T) {
	for enc, rows := range meltingRows {
		for _, row := range rows {
			ahead, behind := open(t, enc, nil, 100), open(t, enc, nil, 100)
			for i := range row {
				change(t, ahead, put(i, i, row[i]))
				shows(t, ahead, row[:i+1], minusOnes(i+1))
				change(t, behind, put(0, 0, row[len(row)-1-i]))
				shows(t, behind, row[len(row)-1-i:], minusOnes(i+1))
			}
			// In one change, by several puts at one place.
			var edits []api.Edit
			for _, a := range row {
				edits = append(edits, put(0, 0, a))
			}
			x := open(t, enc, nil, 100)
			change(t, x, edits...)
			shows(t, x, row, minusOnes(len(row)))
		}
	}
}

// What stood between two atoms is taken away: loaded ones, put ones, one of each.
func TestNothingMeltsLeftSideBySide(t *testing.T) {
	for enc, rows := range meltingRows {
		for _, row := range rows {
			for k := 1; k < len(row); k++ {
				mixed := slices.Concat(row[:k], []int{'-'}, row[k:])
				x := open(t, enc, nil, 100)
				change(t, x, put(0, 0, mixed...))
				change(t, x, put(k, k+1))
				shows(t, x, row, minusOnes(len(row)))
			}
		}
	}
	x := open(t, api.UTF8, []byte{0xC3, '-', 0xA9, 'z'}, 9)
	change(t, x, put(1, 2))
	shows(t, x, []int{-196, -170, 'z'}, []int{0, 2, 3})
	change(t, x, put(0, 1, -196))
	shows(t, x, []int{-196, -170, 'z'}, []int{-1, 2, 3})
	y := open(t, api.UTF16BE, []byte{0xD8, 0x3D, 0, '-', 0xDE, 0, 'z'}, 9)
	change(t, y, put(1, 2))
	shows(t, y, []int{0xD83D, 0xDE00, -1 - 'z'}, []int{0, 4, 6})
}

// A raw byte in the midst of a 16-bit text, at each place: the units behind it do not move.
func TestNothingMeltsRawByteAmongUnits(t *testing.T) {
	r := rand.New(rand.NewSource(505))
	for _, enc := range []int{api.UTF16LE, api.UTF16BE} {
		atoms := []int{'a', 0x1F600, 13, 10, 0xD83D, 0x20AC, 'b'}
		b, _, _ := codec.Encode(enc, atoms)
		for at := range len(atoms) + 1 {
			x, m := open(t, enc, b, 50), modelOf(enc, b, 50)
			for _, edits := range [][]api.Edit{{put(at, at, -11)}, {put(at, at, -1)}, {put(0, 0, 'q')}, {put(at+1, at+2)}} {
				change(t, x, edits...)
				m.change(edits)
				same(t, x, m, r)
				breaksAll(t, x, m.atoms)
			}
		}
	}
}

// Long rows, so that they lie in more pieces than one however they are cut.
func TestNothingMeltsInLongRows(t *testing.T) {
	r := rand.New(rand.NewSource(5050))
	for enc, rows := range meltingRows {
		for _, row := range rows {
			long := slices.Repeat(row, 1+1500/len(row))
			x := open(t, enc, nil, 65536)
			m := modelOf(enc, nil, 65536)
			edits := []api.Edit{put(0, 0, long...)}
			change(t, x, edits...)
			m.change(edits)
			same(t, x, m, r)
			for range 60 {
				at := r.Intn(len(m.atoms))
				edits := []api.Edit{put(at, at+1, row[r.Intn(len(row))])}
				change(t, x, edits...)
				m.change(edits)
			}
			same(t, x, m, r)
		}
	}
}
