package lines_test

import (
	"math"
	"math/rand"
	"slices"
	"testing"

	"copyist/api"
	"copyist/lines"
	"copyist/piece"
)

// The chapter's table (P601, P602, P604, P606), in each encoding.
func TestTable(t *testing.T) {
	for _, c := range []struct {
		text  string
		lines []api.Line
		tail  bool
		kinds [4]int
	}{
		{"", []api.Line{line(0, 0, 0, 0)}, false, [4]int{1, 0, 0, 0}},
		{"a", []api.Line{line(0, 1, 1, 0)}, false, [4]int{1, 0, 0, 0}},
		{"an", []api.Line{line(0, 1, 2, 1)}, true, [4]int{0, 1, 0, 0}},
		{"n", []api.Line{line(0, 0, 1, 1)}, true, [4]int{0, 1, 0, 0}},
		{"anb", []api.Line{line(0, 1, 2, 1), line(2, 3, 3, 0)}, false, [4]int{1, 1, 0, 0}},
		{"arnrbn", []api.Line{line(0, 1, 3, 2), line(3, 3, 4, 3), line(4, 5, 6, 1)}, true, [4]int{0, 1, 1, 1}},
		{"nr", []api.Line{line(0, 0, 1, 1), line(1, 1, 2, 3)}, true, [4]int{0, 1, 0, 1}},
		{"rrnn", []api.Line{line(0, 0, 1, 3), line(1, 1, 3, 2), line(3, 3, 4, 1)}, true, [4]int{0, 1, 1, 1}},
		{"rn", []api.Line{line(0, 0, 2, 2)}, true, [4]int{0, 0, 1, 0}},
		{"r", []api.Line{line(0, 0, 1, 3)}, true, [4]int{0, 0, 0, 1}},
		{"ab cd", []api.Line{line(0, 5, 5, 0)}, false, [4]int{1, 0, 0, 0}},
	} {
		for _, enc := range encodings {
			x := load(t, enc, letters(c.text))
			if got := lines.Count(x); got != len(c.lines) {
				t.Errorf("%d, %q: Count: %d, want %d", enc, c.text, got, len(c.lines))
			}
			if got := lines.Kinds(x); got != c.kinds {
				t.Errorf("%d, %q: Kinds: %v, want %v", enc, c.text, got, c.kinds)
			}
			if got := told(t, x); !slices.Equal(got, c.lines) {
				t.Errorf("%d, %q: All: %v, want %v", enc, c.text, got, c.lines)
			}
			for _, i := range []int{math.MinInt, -2, -1, 0, 1, 2, 3, 4, 5, 1 << 40, math.MaxInt} {
				sameAt(t, x, i, c.lines, c.tail)
			}
		}
	}
}

func TestOfExamples(t *testing.T) {
	for _, enc := range encodings {
		x := load(t, enc, letters("arnrbn"))
		for at, want := range map[int]int{math.MinInt: 0, -3: 0, 0: 0, 1: 0, 2: 0, 3: 1, 4: 2, 5: 2, 6: 3, 7: 3, 99: 3, math.MaxInt: 3} {
			if got := lines.Of(x, at); got != want {
				t.Errorf("%d: Of(%d): %d, want %d", enc, at, got, want)
			}
		}
		for _, c := range []struct {
			text     string
			at, want int
		}{{"", -1, 0}, {"", 0, 0}, {"", 1, 0}, {"a", 1, 0}, {"a", 2, 0}, {"an", 1, 0}, {"an", 2, 1}, {"ana", 2, 1}, {"ana", 3, 1}, {"rn", 1, 0}, {"rn", 2, 1}, {"nr", 1, 1}} {
			if got := lines.Of(load(t, enc, letters(c.text)), c.at); got != c.want {
				t.Errorf("%d: Of(%q, %d): %d, want %d", enc, c.text, c.at, got, c.want)
			}
		}
	}
}

func TestNative(t *testing.T) {
	for _, c := range []struct {
		text           string
		fallback, want int
	}{
		{"arnn", 3, 2}, {"abc", 3, 3}, {"abc", -7, -7}, {"", 0, 0}, {"", math.MaxInt, math.MaxInt}, {"abc", math.MinInt, math.MinInt},
		{"anrrn", 2, 1}, {"arrnn", 1, 3}, {"n", 9, 1}, {"r", 9, 3}, {"rn", 9, 2}, {"nr", 9, 1}, {"aar", 1, 3},
	} {
		for _, enc := range encodings {
			if got := lines.Native(load(t, enc, letters(c.text)), c.fallback); got != c.want {
				t.Errorf("%d: Native(%q, %d): %d, want %d", enc, c.text, c.fallback, got, c.want)
			}
		}
	}
}

// All short texts of letters, CRs and LFs, at every number and offset.
func TestShortTexts(t *testing.T) {
	for _, s := range short(7) {
		for _, enc := range encodings {
			sameAll(t, load(t, enc, letters(s)))
		}
	}
}

// Only the atoms 10 and 13 end a line: no other scalar that does elsewhere, no scalar with their bytes, no raw byte.
func TestNothingElseEndsALine(t *testing.T) {
	for _, enc := range encodings {
		for _, a := range []int{0, 9, 11, 12, 14, 26, 28, 29, 30, 31, 0x85, 0x2028, 0x2029, 0x0A00, 0x0D00, 0x0A0D, 0x0D0A, 0x0D0D, 0x10A0D, 0xD80A, 0xDC0D, -1 - 10, -1 - 13, -1 - 0x8A, -1 - 0x8D} {
			x, _ := piece.Open(enc, nil, 100)
			if x.Change([]api.Edit{put(0, 0, 'a', a, 'b')}) == api.ErrFit {
				continue
			}
			if lines.Count(x) != 1 || lines.Native(x, 0) != 0 || len(told(t, x)) != 1 || lines.Of(x, 2) != 0 {
				t.Errorf("encoding %d: the atom %d ends a line", enc, a)
			}
			change(t, x, put(1, 1, 13), put(2, 2, 10))
			if got := lines.Kinds(x); got != [4]int{1, 1, 0, 1} {
				t.Errorf("encoding %d: the atom %d between a CR and an LF: Kinds %v", enc, a, got)
			}
		}
	}
	odd, _ := piece.Open(api.UTF16LE, []byte{10, 0, 13, 0, 10}, 5)
	if got := told(t, odd); !slices.Equal(got, []api.Line{line(0, 0, 1, 1), line(1, 1, 2, 3), line(2, 3, 3, 0)}) {
		t.Errorf("an odd last byte 0A: %v", got)
	}
}

// A CR and an LF that changes bring together, at every place, and part again.
func TestTogetherAndParted(t *testing.T) {
	for _, enc := range encodings {
		x := load(t, enc, letters("arbnc"))
		for i, step := range []struct {
			edit  api.Edit
			lines []api.Line
		}{
			{put(2, 3), []api.Line{line(0, 1, 3, 2), line(3, 4, 4, 0)}},
			{put(2, 2, 'z'), []api.Line{line(0, 1, 2, 3), line(2, 3, 4, 1), line(4, 5, 5, 0)}},
			{put(2, 3, 10), []api.Line{line(0, 1, 3, 2), line(3, 3, 4, 1), line(4, 5, 5, 0)}},
			{put(3, 3, 13), []api.Line{line(0, 1, 3, 2), line(3, 3, 5, 2), line(5, 6, 6, 0)}},
			{put(1, 2), []api.Line{line(0, 1, 2, 1), line(2, 2, 4, 2), line(4, 5, 5, 0)}},
			{put(3, 5), []api.Line{line(0, 1, 2, 1), line(2, 2, 3, 3)}},
			{put(3, 3, 10), []api.Line{line(0, 1, 2, 1), line(2, 2, 4, 2)}},
			{put(1, 3), []api.Line{line(0, 1, 2, 1)}},
			{put(0, 1, 13), []api.Line{line(0, 0, 2, 2)}},
			{put(1, 1, 13), []api.Line{line(0, 0, 1, 3), line(1, 1, 3, 2)}},
			{put(0, 3), []api.Line{line(0, 0, 0, 0)}},
		} {
			change(t, x, step.edit)
			if got := told(t, x); !slices.Equal(got, step.lines) {
				t.Errorf("encoding %d, step %d: %v, want %v", enc, i, got, step.lines)
			}
			sameAll(t, x)
		}
	}
}

// DOC.md, rule 15: a line deleted from between a CR and an LF.
func TestMeltsWhereALineGoes(t *testing.T) {
	x := load(t, api.UTF8, letters("arbnnc"))
	span, _ := lines.Whole(x, 1, 1)
	change(t, x, put(span.From, span.To))
	if got := told(t, x); !slices.Equal(got, []api.Line{line(0, 1, 3, 2), line(3, 4, 4, 0)}) {
		t.Errorf("%v", got)
	}
}

// Each short text put together from two, at each place, and parted again by a letter.
func TestSeams(t *testing.T) {
	for i, s := range short(6) {
		atoms, enc := letters(s), encodings[i%4]
		for k := range len(atoms) + 1 {
			x := load(t, enc, atoms[:k])
			change(t, x, put(k, k, atoms[k:]...))
			sameAll(t, x)
			change(t, x, put(k, k, 'z'))
			sameAll(t, x)
			change(t, x, put(k, k+1))
			sameAll(t, x)
		}
	}
}

// Lines longer than what is read at once, with each kind of break at each place around its ends.
func TestLongLines(t *testing.T) {
	for _, enc := range encodings {
		for _, around := range []int{128, 256, 512, 1024, 1536} {
			for n := around - 4; n <= around+4; n++ {
				for _, end := range []string{"", "r", "n", "rn", "nr", "rrn", "rnn", "ra", "na", "rna"} {
					atoms := append(slices.Repeat([]int{'a'}, n), letters(end)...)
					places := []int{n - 1, n, n + 1, n + 2, n + 3, len(atoms)}
					same(t, load(t, enc, atoms), []int{0, 1, 2, 3}, places)
					x := load(t, enc, atoms[:n])
					change(t, x, put(n, n, atoms[n:]...))
					same(t, x, []int{0, 1, 2, 3}, places)
				}
			}
		}
	}
}

// Long rows of changes, of texts with few breaks and of texts of nothing else.
func TestAtRandom(t *testing.T) {
	r := rand.New(rand.NewSource(602))
	for _, enc := range encodings {
		for _, share := range []int{1, 10, 60, 100} {
			x := load(t, enc, letters(""))
			change(t, x, put(0, 0, someAtoms(enc, 3000, share, r)...))
			for range 60 {
				from := r.Intn(x.Len() + 1)
				to := min(from+r.Intn(30), x.Len())
				change(t, x, put(from, to, someAtoms(enc, r.Intn(30), share, r)...))
				sameSome(t, x, r)
			}
			s := x.Snap()
			change(t, x, put(0, x.Len()))
			sameAll(t, x)
			x.Back(s)
			sameSome(t, x, r)
		}
	}
}

// At the limit: all of one kind of break.
func TestGreatTexts(t *testing.T) {
	r := rand.New(rand.NewSource(601))
	for _, enc := range encodings {
		most := api.MaxBytes
		if enc == api.UTF16LE || enc == api.UTF16BE {
			most /= 2
		}
		for _, unit := range []string{"n", "r", "rn", "nr", "anrarnan", "a"} {
			atoms := slices.Repeat(letters(unit), most/len(unit))
			sameSome(t, load(t, enc, atoms), r)
		}
	}
	x := load(t, api.Latin1, slices.Repeat([]int{10}, 65536))
	if last, e := lines.At(x, 65535); lines.Count(x) != 65536 || last != line(65535, 65535, 65536, 1) || e != api.OK {
		t.Errorf("Count %d, the last line %v, %d", lines.Count(x), last, e)
	}
}
