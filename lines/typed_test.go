package lines_test

import (
	"math"
	"slices"
	"testing"

	"copyist/api"
	"copyist/codec"
	"copyist/lines"
)

// Each way to melt, each kind of break, and the chapter's examples.
func TestTyped(t *testing.T) {
	for _, c := range []struct {
		text   string
		at     int
		typed  []int
		native int
		want   []int
	}{
		{"xrb", 2, []int{10}, api.LF, []int{13, 10}},
		{"xrb", 2, []int{10, 10}, api.LF, []int{13, 10, 10}},
		{"xrb", 2, []int{97, 10}, api.LF, []int{97, 10}},
		{"xrb", 2, nil, api.LF, nil},
		{"xrb", 2, []int{}, api.CR, nil},
		{"xrb", 1, []int{10}, api.LF, []int{10}},
		{"xrb", 3, []int{10}, api.LF, []int{10}},
		{"xrb", 2, []int{10}, api.CR, []int{13}},
		{"xrb", 2, []int{10}, api.CRLF, []int{13, 10}},
		{"xn", 1, []int{10}, api.CR, []int{13, 10}},
		{"xn", 1, []int{10, 10}, api.CR, []int{13, 13, 10}},
		{"xn", 1, []int{10, 97}, api.CR, []int{13, 97}},
		{"xn", 1, []int{10}, api.LF, []int{10}},
		{"xn", 1, []int{10}, api.CRLF, []int{13, 10}},
		{"xn", 2, []int{10}, api.CR, []int{13}},
		{"xn", 0, []int{10}, api.CR, []int{13}},
		{"n", 0, []int{10}, api.CR, []int{13, 10}},
		{"r", 1, []int{10}, api.LF, []int{13, 10}},
		{"r", 0, []int{10}, api.LF, []int{10}},
		{"rn", 1, []int{10, 10}, api.LF, []int{13, 10, 10}},
		{"rn", 1, []int{10}, api.CRLF, []int{13, 10}},
		{"rn", 1, []int{10}, api.CR, []int{13, 10}},
		{"rn", 1, []int{10, 10}, api.CR, []int{13, 13, 10}},
		{"rn", 2, []int{10}, api.LF, []int{10}},
		{"rn", 0, []int{10}, api.CR, []int{13}},
		{"", 0, []int{13, 10}, api.LF, []int{13, 13, 10}},
		{"", 0, []int{13, 10, 13, 10}, api.LF, []int{13, 13, 10, 13, 13, 10}},
		{"", 0, []int{13, 10}, api.CR, []int{13, 13}},
		{"", 0, []int{13, 10}, api.CRLF, []int{13, 13, 10}},
		{"n", 0, []int{13}, api.CR, []int{13}}, // a typed 13 is no line end: it may melt
		{"r", 1, []int{97, 10}, api.LF, []int{97, 10}},
		{"", 0, []int{10, 10, 10}, api.LF, []int{10, 10, 10}},
		{"", 0, []int{10, 10, 10}, api.CR, []int{13, 13, 13}},
		{"", 0, []int{10, 97, 10}, api.CRLF, []int{13, 10, 97, 13, 10}},
		{"a", 1, []int{math.MaxInt, 10, math.MinInt, -300, 0x110000, 10}, api.CR, []int{math.MaxInt, 13, math.MinInt, -300, 0x110000, 13}},
	} {
		for _, enc := range encodings {
			x := load(t, enc, letters(c.text))
			if got, e := lines.Typed(x, c.at, c.typed, c.native); !slices.Equal(got, c.want) || e != api.OK {
				t.Errorf("%d: Typed(%q, %d, %v, %d): %v, %d, want %v", enc, c.text, c.at, c.typed, c.native, got, e, c.want)
			}
		}
	}
}

func TestTypedRefuses(t *testing.T) {
	x := load(t, api.UTF8, letters("arn"))
	for _, native := range []int{math.MinInt, -1, 0, 4, 10, 13, math.MaxInt} {
		for _, at := range []int{math.MinInt, -1, 0, 3, 4, math.MaxInt} {
			if got, e := lines.Typed(x, at, []int{97, 10}, native); len(got) != 0 || e != api.ErrArg {
				t.Errorf("Typed at %d, native %d: %v, %d, want ErrArg", at, native, got, e)
			}
		}
	}
	for _, native := range natives {
		for _, at := range []int{math.MinInt, -2, -1, 4, 5, math.MaxInt} {
			for _, typed := range [][]int{nil, {97}, {10}} {
				if got, e := lines.Typed(x, at, typed, native); len(got) != 0 || e != api.ErrRange {
					t.Errorf("Typed(%v) at %d: %v, %d, want ErrRange", typed, at, got, e)
				}
			}
		}
		for at := range 4 {
			if _, e := lines.Typed(x, at, []int{10}, native); e != api.OK {
				t.Errorf("Typed at %d: %d", at, e)
			}
		}
	}
	empty := load(t, api.Latin1, nil)
	if got, e := lines.Typed(empty, 1, []int{10}, api.LF); len(got) != 0 || e != api.ErrRange {
		t.Errorf("behind the end of the empty text: %v, %d", got, e)
	}
}

// ends tells what typed text becomes, by the chapter's sentences, each line end for itself.
func ends(atoms []int, at int, typed []int, native int) []int {
	var out []int
	for i, a := range typed {
		if a != 10 {
			out = append(out, a)
			continue
		}
		aheadIs13 := has(atoms, at-1, 13)
		if len(out) > 0 {
			aheadIs13 = out[len(out)-1] == 13
		}
		switch {
		case native == 1 && !aheadIs13:
			out = append(out, 10)
		case native == 3 && !(i == len(typed)-1 && has(atoms, at, 10)):
			out = append(out, 13)
		default:
			out = append(out, 13, 10)
		}
	}
	return out
}

// All short typed lists at all places of all short texts. What is answered is put in: every 10 makes a break, where the chapter says so.
func TestTypedEverywhere(t *testing.T) {
	for i, s := range short(4) {
		atoms, enc := letters(s), encodings[i%4]
		for at := range len(atoms) + 1 {
			inside := has(atoms, at-1, 13) && has(atoms, at, 10)
			for _, keys := range short(4) {
				typed := letters(keys)
				for _, native := range natives {
					x := load(t, enc, atoms)
					got, e := lines.Typed(x, at, typed, native)
					if want := ends(atoms, at, typed, native); !slices.Equal(got, want) || e != api.OK {
						t.Fatalf("Typed(%q, %d, %q, %d): %v, %d, want %v", s, at, keys, native, got, e, want)
					}
					if !slices.Equal(x.Atoms(0, x.Len()), atoms) {
						t.Fatalf("Typed has changed the text %q", s)
					}
					if inside || slices.Contains(typed, 13) {
						continue
					}
					change(t, x, put(at, at, got...))
					more := len(breaks(x.Atoms(0, x.Len()))) - len(breaks(atoms))
					if more != len(breaks(typed)) || lines.Count(x) < more {
						t.Fatalf("%q typed into %q at %d (%d): %d breaks more", keys, s, at, native, more)
					}
				}
			}
		}
	}
}

// The neighbours are those of now, whichever edits have brought them there, and in whichever bytes they lie.
func TestTypedBesideChanges(t *testing.T) {
	for _, enc := range encodings {
		x := load(t, enc, letters("abc"))
		one := codec.Size(enc, 'a')
		change(t, x, put(1, 1, 13), put(2, 2, 10))
		for i, c := range []struct {
			at, native int
			want       []int
		}{{2, api.LF, []int{13, 10}}, {3, api.CR, []int{13, 10}}, {3, api.LF, []int{10}}, {2, api.CR, []int{13}}, {1, api.LF, []int{10}}, {4, api.CR, []int{13}}} {
			if got, _ := lines.Typed(x, c.at, []int{10}, c.native); !slices.Equal(got, c.want) || x.Size() != 5*one {
				t.Errorf("encoding %d, case %d: %v, want %v", enc, i, got, c.want)
			}
		}
		change(t, x, put(1, 2), put(3, 4))
		for _, at := range []int{0, 1, 2, 3} {
			for native, want := range map[int][]int{api.LF: {10}, api.CR: {13}} {
				if got, _ := lines.Typed(x, at, []int{10}, native); !slices.Equal(got, want) {
					t.Errorf("encoding %d, taken away again, at %d: %v, want %v", enc, at, got, want)
				}
			}
		}
	}
}

func TestTypedLongLists(t *testing.T) {
	typed := slices.Repeat([]int{10, 97, 10}, 60000)
	x := load(t, api.UTF8, letters("rn"))
	for _, native := range natives {
		want := ends(letters("rn"), 1, typed, native)
		if got, e := lines.Typed(x, 1, typed, native); !slices.Equal(got, want) || e != api.OK {
			t.Errorf("native %d: %d atoms, %d, want %d atoms", native, len(got), e, len(want))
		}
	}
}
