package operate_test

import (
	"math/rand"
	"slices"
	"testing"

	"copyist/api"
	"copyist/codec"
)

// few are atoms of every sort, of which an encoding takes those that fit.
var few = []int{'a', 'b', 'Z', ' ', ' ', 9, ')', '(', 10, 10, 13, 13, 0x301, 0xE9, 0xFF, 0x178, 0x1F468, 0x200D, 0x1F1E6, 0xA0, 0x4E00, 0xD800, 0xDC00, -1 - 0xC3, -1 - 0xA9}

func fitting(enc int) []int {
	return slices.DeleteFunc(slices.Clone(few), func(a int) bool { return !codec.Fits(enc, a) })
}

func someOf(rnd *rand.Rand, atoms []int, n int) []int {
	list := []int{}
	for range rnd.Intn(n + 1) {
		list = append(list, atoms[rnd.Intn(len(atoms))])
	}
	return list
}

func oneOf(rnd *rand.Rand, list ...int) int { return list[rnd.Intn(len(list))] }

// randomSpan is a span of a text of n atoms, now and then one that is none.
func randomSpan(rnd *rand.Rand, n int) api.Span {
	from, to := rnd.Intn(n+1), rnd.Intn(n+1)
	if rnd.Intn(3) > 0 {
		to = min(from+rnd.Intn(8), n)
	}
	s := api.Span{From: min(from, to), To: max(from, to), Kind: rnd.Intn(2)}
	if rnd.Intn(30) == 0 {
		s = api.Span{From: from - 1, To: to + 1, Kind: rnd.Intn(4) - 1}
	}
	return s
}

func randomAct(rnd *rand.Rand, enc, n, count int) act {
	reg := oneOf(rnd, 0, 0, '"', 'a', 'b', 'A', 'B', '_', '1', '5', '-', '0', '.', 63)
	s := randomSpan(rnd, n)
	switch rnd.Intn(10) {
	case 0:
		return yank(reg, s)
	case 1:
		return remove(reg, s)
	case 2:
		return change(reg, s)
	case 3, 4:
		return put(reg, rnd.Intn(2) == 0, oneOf(rnd, 1, 1, 1, 2, 5, 0, 9999))
	case 5:
		return turn(oneOf(rnd, api.VUpper, api.VLower, api.VFlip, 1), s)
	case 6:
		return shift(s, oneOf(rnd, 1, 2, -1, -1, -2, -3, 0, 9999, -9999))
	case 7:
		first := rnd.Intn(count)
		return join(first, first+oneOf(rnd, 1, 1, 1, 2, 3, 0, -1), rnd.Intn(3) == 0)
	case 8:
		return over(oneOf(rnd, 1, 1, 2, 3, 0), append(few, 300)[rnd.Intn(len(few)+1)])
	}
	return typing(someOf(rnd, append(fitting(enc), 10), 5)...)
}

// TestRandom: long rows of calls, in each encoding, within groups and without, undone and done again, against the plain reading.
func TestRandom(t *testing.T) {
	for seed := range 300 {
		rnd := rand.New(rand.NewSource(int64(seed)))
		enc := encodings[seed%4]
		text := someOf(rnd, fitting(enc), 40)
		b := bytesOf(t, enc, text)
		x := open(t, enc, b, len(b)+rnd.Intn(200)).native(rnd.Intn(5))
		for range 60 {
			n := x.d.Book.Text().Len()
			switch rnd.Intn(12) {
			case 0:
				x.marked()
			case 1:
				if x.d.Book.IsOpen() {
					x.end(rnd.Intn(n + 1))
				} else {
					x.begin(rnd.Intn(n + 1))
				}
			case 2:
				if undo, _ := x.d.Book.Depth(); undo > 0 && !x.d.Book.IsOpen() {
					x.undo()
				}
			case 3:
				x.native(rnd.Intn(5))
			case 4, 5:
				x.at(rnd.Intn(n+5) - 2)
			}
			n = x.d.Book.Text().Len()
			x.try(randomAct(rnd, enc, n, len(rowsOf(x.p.atoms()))))
		}
	}
}
