package cluster_test

import (
	"math"
	"slices"
	"testing"

	"copyist/cluster"
)

// The definitions of P303 to P309, over the boundaries as a list.

func defNext(bounds []int, at int) int {
	for _, b := range bounds {
		if b > at {
			return b
		}
	}
	return bounds[len(bounds)-1]
}

func defPrev(bounds []int, at int) int {
	out := 0
	for _, b := range bounds {
		if b < at {
			out = b
		}
	}
	return out
}

func defSnap(bounds []int, at int) int {
	out := 0
	for _, b := range bounds {
		if b <= at {
			out = b
		}
	}
	return out
}

func defColumn(bounds []int, at int) int {
	n := 0
	for _, b := range bounds {
		if 0 < b && b <= at {
			n++
		}
	}
	return n
}

func defOffset(bounds []int, col int) int {
	return bounds[min(max(col, 0), len(bounds)-1)]
}

var calls = []struct {
	name string
	call func(atoms []int, n int) int
	def  func(bounds []int, n int) int
}{
	{"P304: Next", cluster.Next, defNext},
	{"P305: Prev", cluster.Prev, defPrev},
	{"P306: Snap", cluster.Snap, defSnap},
	{"P308: Column", cluster.Column, defColumn},
	{"P309: Offset", cluster.Offset, defOffset},
}

// holdAll holds every call against its definition, at all offsets of a list, at those next to it and far from it.
func holdAll(t *testing.T, atoms []int) {
	t.Helper()
	bounds := boundaries(atoms)
	holdBreaks(t, atoms, bounds)
	if got := cluster.Count(atoms); got != len(bounds)-1 {
		t.Fatalf("P307: Count(%X) = %d, want %d", atoms, got, len(bounds)-1)
	}
	numbers := slices.Clone(far)
	for at := -3; at <= len(atoms)+3; at++ {
		numbers = append(numbers, at)
	}
	for _, n := range numbers {
		if got := cluster.IsBreak(atoms, n); got != slices.Contains(bounds, n) {
			t.Fatalf("P303: IsBreak(%X, %d) = %v", atoms, n, got)
		}
		for _, c := range calls {
			if got, want := c.call(atoms, n), c.def(bounds, n); got != want {
				t.Fatalf("%s(%X, %d) = %d, want %d", c.name, atoms, n, got, want)
			}
		}
	}
}

func TestP303ToP309OfEveryShortList(t *testing.T) {
	holdAll(t, nil)
	holdAll(t, []int{})
	for n := 1; n <= 3; n++ {
		lists(kinds, n, func(atoms []int) { holdAll(t, atoms) })
	}
	rows := []int{letter, consonant, linker, joiner, picture, regional, prepend}
	for n := 4; n <= 5; n++ {
		lists(rows, n, func(atoms []int) { holdAll(t, atoms) })
	}
}

func TestP303ToP309OfLongerLists(t *testing.T) {
	for _, atoms := range someLists(303, 400, 50) {
		holdAll(t, atoms)
	}
	for _, e := range chapterExamples {
		holdAll(t, hex(t, e.list))
	}
}

func TestP303ToP309ExamplesOfTheChapter(t *testing.T) {
	atoms := []int{0x65, 0x301, 0x61}
	for i, want := range []bool{false, true, false, true, true, false} {
		if got := cluster.IsBreak(atoms, i-1); got != want {
			t.Errorf("P303: IsBreak at %d: %v", i-1, got)
		}
	}
	if got := cluster.Count(atoms); got != 2 {
		t.Errorf("P307: Count = %d", got)
	}
	for i, e := range []struct{ at, want []int }{
		{[]int{-5, 0, 1, 2, 3, 9}, []int{0, 2, 2, 3, 3, 3}},
		{[]int{-5, 0, 1, 2, 3, 4}, []int{0, 0, 0, 0, 2, 3}},
		{[]int{-1, 0, 1, 2, 3, 4}, []int{0, 0, 0, 2, 3, 3}},
		{[]int{-1, 0, 1, 2, 3, 9}, []int{0, 0, 0, 1, 2, 2}},
		{[]int{-1, 0, 1, 2, 3}, []int{0, 0, 2, 3, 3}},
	} {
		for j, at := range e.at {
			if got := calls[i].call(atoms, at); got != e.want[j] {
				t.Errorf("%s at %d: %d, want %d", calls[i].name, at, got, e.want[j])
			}
		}
	}
}

func TestP309OffsetOfColumnIsSnap(t *testing.T) {
	for _, atoms := range someLists(309, 300, 40) {
		for at := -2; at <= len(atoms)+2; at++ {
			if got, want := cluster.Offset(atoms, cluster.Column(atoms, at)), cluster.Snap(atoms, at); got != want {
				t.Fatalf("P309: Offset(Column(%X, %d)) = %d, Snap %d", atoms, at, got, want)
			}
		}
	}
}

// longRows are lists at which looking back from every offset would take a time that grows with the square.
func longRows(n int) map[string][]int {
	repeat := func(head []int, atoms ...int) []int {
		for len(head) < n {
			head = append(head, atoms...)
		}
		return head
	}
	return map[string][]int{
		"regionals":                      repeat(nil, regional),
		"prepends, then regionals":       repeat(repeat(nil, prepend)[:n/2], regional),
		"joiners":                        append(repeat([]int{picture}, joiner), picture),
		"accents, a joiner, a picture":   append(repeat([]int{picture}, accent), joiner, picture),
		"pictures and joiners":           repeat([]int{picture}, accent, joiner, picture),
		"linkers":                        append(repeat([]int{consonant}, linker), consonant),
		"linkers with no consonant":      append(repeat([]int{letter}, linker), consonant),
		"consonants and linkers":         repeat([]int{consonant}, linker, joiner, consonant),
		"consonants and rows of accents": repeat([]int{consonant}, linker, accent, accent, accent, accent, consonant),
		"prepends":                       repeat(nil, prepend),
		"letters":                        repeat(nil, letter),
		"line ends":                      repeat(nil, cr, lf),
		"syllables":                      repeat(nil, hangulL, hangulV, hangulT),
		"no atoms":                       repeat(nil, math.MinInt64, noAtom),
	}
}

func TestP301LongRowsEndSoon(t *testing.T) {
	for name, atoms := range longRows(1 << 17) {
		soon(t, name, func() {
			n := len(atoms)
			bounds := cluster.Breaks(atoms)
			if got := cluster.Count(atoms); got != len(bounds)-1 {
				t.Errorf("P307: %s: Count %d, want %d", name, got, len(bounds)-1)
			}
			for _, at := range []int{1, n / 3, n - 1, n + 1} {
				if got, want := cluster.Column(atoms, at), defColumn(bounds, at); got != want {
					t.Errorf("P308: %s: Column at %d: %d, want %d", name, at, got, want)
				}
				if got, want := cluster.Offset(atoms, at), defOffset(bounds, at); got != want {
					t.Errorf("P309: %s: Offset at %d: %d, want %d", name, at, got, want)
				}
			}
			// One look from far inside of a row may go through all of it, and no more than a few times.
			for _, at := range []int{n / 2, n/2 + 1, n - 1, n} {
				for _, c := range calls[:3] {
					if got, want := c.call(atoms, at), c.def(bounds, at); got != want {
						t.Errorf("%s: %s at %d: %d, want %d", c.name, name, at, got, want)
					}
				}
				if got := cluster.IsBreak(atoms, at); got != slices.Contains(bounds, at) {
					t.Errorf("P303: %s: IsBreak at %d: %v", name, at, got)
				}
			}
		})
	}
}

func TestP302LongRows(t *testing.T) {
	for name, atoms := range longRows(600) {
		want := boundaries(atoms)
		if got := cluster.Breaks(atoms); !slices.Equal(got, want) {
			t.Errorf("P302: %s: %v, want %v", name, got, want)
		}
	}
}

func TestP301IntsThatAreNoAtomsStandAlone(t *testing.T) {
	for _, atom := range odd {
		for _, other := range append(slices.Clone(kinds), odd...) {
			atoms := []int{other, atom, other}
			holdBreaks(t, atoms, []int{0, 1, 2, 3})
			holdAll(t, atoms)
		}
	}
}

func TestP310NothingFurtherBehindHasASay(t *testing.T) {
	for _, atoms := range someLists(310, 200, 40) {
		for k := range atoms {
			for _, tail := range [][]int{nil, {accent, letter}, {linker, consonant}, {joiner, picture}, {regional}, {lf}} {
				other := append(slices.Clone(atoms[:k+1]), tail...)
				if got, want := cluster.IsBreak(other, k), cluster.IsBreak(atoms, k); got != want {
					t.Fatalf("P310: IsBreak(%X, %d) = %v, IsBreak(%X, %d) = %v", other, k, got, atoms, k, want)
				}
			}
		}
	}
}

func TestP310CutAheadOfABoundary(t *testing.T) {
	all := append(someLists(311, 200, 40), longRows(90)["regionals"], longRows(90)["linkers"], longRows(90)["pictures and joiners"])
	for _, atoms := range all {
		for _, b := range cluster.Breaks(atoms) {
			for k := b; k <= len(atoms); k++ {
				if got, want := cluster.IsBreak(atoms[b:], k-b), cluster.IsBreak(atoms, k); got != want {
					t.Fatalf("P310: %X cut at %d: IsBreak at %d = %v, uncut %v", atoms, b, k, got, want)
				}
			}
		}
	}
}

// The clusters of a line's content are the same in the content alone and in the text.
func TestP310ClustersOfALine(t *testing.T) {
	contents := slices.DeleteFunc(someLists(312, 120, 12), func(atoms []int) bool {
		return slices.Contains(atoms, cr) || slices.Contains(atoms, lf)
	})
	for i, content := range contents {
		for _, end := range [][]int{{lf}, {cr}, {cr, lf}} {
			ahead := append(slices.Clone(contents[(i+1)%len(contents)]), end...)
			text := slices.Concat(ahead, content, end, contents[(i+2)%len(contents)])
			for k := 0; k <= len(content); k++ {
				if got, want := cluster.IsBreak(text, len(ahead)+k), cluster.IsBreak(content, k); got != want {
					t.Fatalf("P310: in %X IsBreak at %d = %v, in its line %X at %d %v", text, len(ahead)+k, got, content, k, want)
				}
			}
		}
	}
}

func TestP311NothingIsChangedOrKept(t *testing.T) {
	room := []int{0x65, accent, letter, 77, 78, 79}
	kept := slices.Clone(room)
	atoms := room[:3]
	holdAll(t, atoms)
	if !slices.Equal(room, kept) {
		t.Fatalf("P311: the list is %X, was %X", room, kept)
	}
	first := cluster.Breaks(atoms)
	second := cluster.Breaks(atoms)
	first = first[:cap(first)]
	for i := range first {
		first[i] = 99
	}
	if want := []int{0, 2, 3}; !slices.Equal(second, want) || !slices.Equal(cluster.Breaks(atoms), want) || !slices.Equal(room, kept) {
		t.Fatalf("P311: what was answered is shared: %v, list %X", second, room)
	}
	empty := cluster.Breaks(nil)
	empty[0] = 5
	if got := cluster.Breaks(nil); !slices.Equal(got, []int{0}) {
		t.Fatalf("P311: Breaks of nothing = %v", got)
	}
	atoms[1] = letter
	if got := cluster.Breaks(atoms); !slices.Equal(got, []int{0, 1, 2, 3}) {
		t.Fatalf("P311: Breaks of a changed list = %v", got)
	}
}
