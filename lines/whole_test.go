package lines_test

import (
	"math"
	"slices"
	"testing"

	"copyist/api"
	"copyist/lines"
)

func TestWhole(t *testing.T) {
	for _, c := range []struct {
		text        string
		first, last int
		from, to    int
	}{
		{"anbnc", 0, 0, 0, 2}, {"anbnc", 1, 1, 2, 4}, {"anbnc", 2, 2, 3, 5}, {"anbnc", 1, 2, 1, 5}, {"anbnc", 0, 2, 0, 5}, {"anbnc", 0, 1, 0, 4},
		{"an", 0, 0, 0, 2}, {"annb", 2, 2, 3, 4}, {"annb", 1, 2, 1, 4}, {"annb", 0, 2, 0, 4},
		{"", 0, 0, 0, 0}, {"a", 0, 0, 0, 1}, {"n", 0, 0, 0, 1},
		{"arnb", 1, 1, 1, 4}, {"arb", 1, 1, 1, 3}, // the break ahead goes whole, whatever its kind
		{"nb", 1, 1, 1, 2}, {"rnb", 1, 1, 2, 3}, {"rb", 1, 1, 1, 2}, // an empty line keeps its break
		{"arnrnb", 2, 2, 5, 6}, {"arnrnb", 1, 2, 1, 6},
		{"anbn", 1, 1, 2, 4}, {"anbn", 0, 1, 0, 4}, // a last line with a break
		{"annn", 2, 2, 3, 4},
	} {
		for _, enc := range encodings {
			want := api.Span{From: c.from, To: c.to, Kind: api.ByLines}
			if got, e := lines.Whole(load(t, enc, letters(c.text)), c.first, c.last); got != want || e != api.OK {
				t.Errorf("%d: Whole(%q, %d, %d): %v, %d, want %v", enc, c.text, c.first, c.last, got, e, want)
			}
		}
	}
}

func TestWholeRefuses(t *testing.T) {
	for _, c := range []struct {
		text        string
		first, last int
	}{
		{"anbnc", 2, 1}, {"anbnc", 0, 3}, {"anbnc", 3, 3}, {"anbnc", -1, 0}, {"anbnc", -1, -1}, {"anbnc", 0, -1}, {"anbnc", 1, 0},
		{"an", 1, 1}, {"an", 0, 1}, // the tail is no line
		{"", 1, 1}, {"", 0, 1}, {"", -1, 0},
		{"anbnc", math.MinInt, math.MaxInt}, {"anbnc", math.MaxInt, math.MaxInt}, {"anbnc", math.MinInt, math.MinInt}, {"anbnc", 0, math.MaxInt}, {"anbnc", math.MaxInt, math.MinInt}, {"anbnc", 2, math.MinInt},
	} {
		for _, enc := range encodings {
			if got, e := lines.Whole(load(t, enc, letters(c.text)), c.first, c.last); got != (api.Span{}) || e != api.ErrRange {
				t.Errorf("%d: Whole(%q, %d, %d): %v, %d, want ErrRange", enc, c.text, c.first, c.last, got, e)
			}
		}
	}
}

// All lines of all short texts, by the definition; and what is left when they go.
func TestWholeOfShortTexts(t *testing.T) {
	for i, s := range short(6) {
		atoms := letters(s)
		x := load(t, encodings[i%4], atoms)
		all, _ := plain(atoms)
		for first := -1; first <= len(all)+1; first++ {
			for last := -1; last <= len(all)+1; last++ {
				want, e := api.Span{}, api.ErrRange
				if first >= 0 && last >= first && last < len(all) {
					want, e = api.Span{From: all[first].From, To: all[last].Next, Kind: 1}, api.OK
					if all[last].Break == 0 && first > 0 && all[first-1].To > all[first-1].From {
						want.From = all[first-1].To
					}
				}
				if got, f := lines.Whole(x, first, last); got != want || f != e {
					t.Fatalf("Whole(%q, %d, %d): %v, %d, want %v, %d", s, first, last, got, f, want, e)
				}
			}
		}
	}
}

// DOC.md, rule 12: a missing last break stays missing, and an empty line stays a line.
func TestWholeAtTheEnd(t *testing.T) {
	for _, c := range []struct {
		text, left  string
		first, last int
		count       int
	}{{"anb", "a", 1, 1, 1}, {"arnb", "a", 1, 1, 1}, {"annb", "ann", 2, 2, 2}, {"annb", "a", 1, 2, 1}, {"nb", "n", 1, 1, 1}, {"anbn", "an", 1, 1, 1}} {
		x := load(t, api.UTF8, letters(c.text))
		span, e := lines.Whole(x, c.first, c.last)
		change(t, x, put(span.From, span.To))
		if e != api.OK || !slices.Equal(x.Atoms(0, x.Len()), letters(c.left)) || lines.Count(x) != c.count {
			t.Errorf("%q without its lines %d to %d: %v, %d lines", c.text, c.first, c.last, x.Atoms(0, x.Len()), lines.Count(x))
		}
	}
}
