package breaks_test

import (
	"math"
	"slices"
	"testing"

	"copyist/api"
	"copyist/breaks"
	"copyist/lines"
	"copyist/piece"
)

func spell(s string) []int {
	list := []int{}
	for _, r := range s {
		list = append(list, int(r))
	}
	return list
}

// TestKinds: what is a break, which kinds there are, and what is taken for a setting that is none.
func TestKinds(t *testing.T) {
	for _, atom := range []int{-11, -14, 0, 9, 11, 12, 14, 'a', 0x85, 0x2028, 10 + 1<<32, math.MinInt} {
		if breaks.Is(atom) {
			t.Errorf("%d is a break", atom)
		}
	}
	if !breaks.Is(10) || !breaks.Is(13) {
		t.Error("10, 13")
	}
	for kind, want := range map[int]string{api.LF: "\n", api.CRLF: "\r\n", api.CR: "\r"} {
		if !breaks.IsKind(kind) || breaks.Native(kind) != kind || !slices.Equal(breaks.Of(kind), spell(want)) {
			t.Errorf("the kind %d", kind)
		}
	}
	for _, kind := range []int{0, -1, 4, api.CR + 1<<32, math.MaxInt} {
		if breaks.IsKind(kind) || breaks.Native(kind) != api.LF {
			t.Errorf("%d is a kind", kind)
		}
	}
}

// TestTyped: a typed line end melts with nothing that stands beside it.
func TestTyped(t *testing.T) {
	for _, c := range []struct {
		kind                int
		ahead, behind, want string
	}{
		{api.LF, "", "", "\n"}, {api.LF, "a", "b", "\n"}, {api.LF, "\r", "", "\r\n"}, {api.LF, "a\r", "b", "\r\n"}, {api.LF, "\n", "\n", "\n"}, {api.LF, "", "\r", "\n"},
		{api.CR, "", "", "\r"}, {api.CR, "", "\n", "\r\n"}, {api.CR, "\r", "\r", "\r"}, {api.CR, "\r", "a\n", "\r"}, {api.CRLF, "\r", "\n", "\r\n"}, {api.CRLF, "", "", "\r\n"},
	} {
		if got := breaks.Typed(c.kind, spell(c.ahead), spell(c.behind)); !slices.Equal(got, spell(c.want)) {
			t.Errorf("Typed(%d, %q, %q) = %v", c.kind, c.ahead, c.behind, got)
		}
	}
}

// TestLast: the last break of a text by lines, and its last line.
func TestLast(t *testing.T) {
	for _, c := range []struct {
		text, without string
		last          int
	}{
		{"\n", "", 0}, {"\r\n", "", 0}, {"\r", "", 0}, {"a\n", "a", 0}, {"a\nb\r\n", "a\nb", 2}, {"a\r\nb\r", "a\r\nb", 3}, {"a\n\n", "a\n", 2}, {"\n\r", "\n", 1}, {"a\r\r\n", "a\r", 2}, {"ab\rcd\n", "ab\rcd", 3},
	} {
		if got := breaks.Without(spell(c.text)); !slices.Equal(got, spell(c.without)) {
			t.Errorf("Without(%q) = %v", c.text, got)
		}
		if got := breaks.LastLine(spell(c.text)); got != c.last {
			t.Errorf("LastLine(%q) = %d; want %d", c.text, got, c.last)
		}
	}
}

// TestRows: the lines of a text, as package lines tells them, from each up to each.
func TestRows(t *testing.T) {
	for _, s := range []string{"", "a", "\n", "a\nb", "a\r\n\rb\n\nc", "\r\r\n\n", "a\r", "ab\r\ncd\r\n", "\n\r"} {
		text, err := piece.Open(api.UTF8, []byte(s), 100)
		if err != api.OK {
			t.Fatal(err)
		}
		var all []api.Line
		for _, line := range lines.All(text) {
			all = append(all, line)
		}
		for i := range all {
			for k := i; k < len(all); k++ {
				n := i
				for row := range breaks.Rows(text, all[i].From, all[k].Next) {
					if row.From != all[n].From || row.To() != all[n].To || !slices.Equal(row.Content, text.Atoms(row.From, row.To())) {
						t.Fatalf("%q: the line %d: %+v; want %+v", s, n, row, all[n])
					}
					n++
				}
				if n != k+1 {
					t.Fatalf("%q: %d lines; want %d", s, n-i, k+1-i)
				}
			}
		}
		for range breaks.Rows(text, 0, text.Len()) {
			break // whoever leaves early is not asked again
		}
	}
}
