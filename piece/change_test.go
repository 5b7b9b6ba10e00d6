package piece_test

import (
	"math"
	"math/rand"
	"slices"
	"testing"

	"copyist/api"
	"copyist/codec"
	"copyist/piece"
)

// Each error, alone and with those that come behind it in the order.
func TestChangeErrors(t *testing.T) {
	long := make([]api.Edit, 70001)
	longBad := slices.Clone(long)
	longBad[0] = put(-1, 99, -257, 'a', 'a', 'a', 'a', 'a', 'a', 'a')
	many := []int{'a', 'a', 'a', 'a', 'a', 'a', 'a'} // past the limit of 10 bytes
	for i, c := range []struct {
		edits []api.Edit
		e     api.Errno
	}{
		{long, api.ErrLong},
		{longBad, api.ErrLong},
		{[]api.Edit{put(-1, 0)}, api.ErrRange},
		{[]api.Edit{put(math.MinInt, math.MaxInt)}, api.ErrRange},
		{[]api.Edit{put(math.MinInt, math.MinInt)}, api.ErrRange},
		{[]api.Edit{put(math.MaxInt, math.MaxInt)}, api.ErrRange},
		{[]api.Edit{put(math.MaxInt, math.MinInt)}, api.ErrRange},
		{[]api.Edit{put(2, 1)}, api.ErrRange},
		{[]api.Edit{put(0, 5)}, api.ErrRange},
		{[]api.Edit{put(5, 5)}, api.ErrRange},
		{[]api.Edit{put(0, math.MaxInt)}, api.ErrRange},
		{[]api.Edit{put(0, 2), put(1, 3)}, api.ErrRange},
		{[]api.Edit{put(0, 1), put(0, 0)}, api.ErrRange},
		{[]api.Edit{put(3, 3), put(2, 2)}, api.ErrRange},
		{[]api.Edit{put(0, 0, -66, -257), put(0, 5, many...)}, api.ErrRange},
		{[]api.Edit{put(0, 0, -66)}, api.ErrFit},
		{[]api.Edit{put(0, 4, -66)}, api.ErrFit},
		{[]api.Edit{put(0, 0, 'a'), put(1, 2, 'a', 0xD800)}, api.ErrFit},
		{[]api.Edit{put(0, 0, 0x110000)}, api.ErrFit},
		{[]api.Edit{put(0, 0, math.MaxInt)}, api.ErrFit},
		{[]api.Edit{put(0, 0, math.MinInt)}, api.ErrFit},
		{[]api.Edit{put(0, 0, many...), put(0, 0, -257)}, api.ErrFit},
		{[]api.Edit{put(0, 0, make([]int, 70000)...), put(0, 0, -257)}, api.ErrFit},
		{[]api.Edit{put(0, 0, many...)}, api.ErrFull},
		{[]api.Edit{put(0, 2, many...), put(4, 4, 8364)}, api.ErrFull},
		{[]api.Edit{put(0, 4, append(many, many...)...)}, api.ErrFull},
		{[]api.Edit{put(0, 0, make([]int, 70000)...)}, api.ErrFull},
	} {
		x := open(t, api.UTF8, []byte("abcd"), 10)
		s := x.Snap()
		if e := x.Change(c.edits); e != c.e {
			t.Errorf("case %d: %d, want %d", i, e, c.e)
		}
		shows(t, x, []int{'a', 'b', 'c', 'd'}, []int{0, 1, 2, 3})
		if x.Size() != 4 || x.Back(s) != api.OK {
			t.Errorf("case %d: something has changed", i)
		}
	}
}

// What fits one encoding does not fit another.
func TestChangeFits(t *testing.T) {
	for _, enc := range encodings {
		for _, a := range []int{0, 'a', 0x7F, 0x80, 0xFF, 0x100, 0xD7FF, 0xD800, 0xDBFF, 0xDC00, 0xDFFF, 0xE000, 0xFFFF, 0x10000, 0x10FFFF, 0x110000, -1, -128, -129, -256, -257} {
			x := open(t, enc, []byte{1, 2, 3, 4}, 20)
			want := api.OK
			if !codec.Fits(enc, a) {
				want = api.ErrFit
			}
			if e := x.Change([]api.Edit{put(1, 1, a)}); e != want {
				t.Errorf("encoding %d, atom %d: %d, want %d", enc, a, e, want)
			}
		}
	}
}

func TestChangeLimit(t *testing.T) {
	for _, enc := range encodings {
		one := codec.Size(enc, 'a')
		b, _, _ := codec.Encode(enc, []int{'x', 'y', 'z'})
		x := open(t, enc, b, 5*one)
		change(t, x, put(1, 1, 'a', 'a')) // just up to the limit
		if e := x.Change([]api.Edit{put(5, 5, 'a')}); e != api.ErrFull {
			t.Errorf("%d: past the limit: %d", enc, e)
		}
		change(t, x, put(0, 1, 'a'), put(4, 4))                           // at the limit as much goes as comes
		change(t, x, put(0, 5), put(5, 5, 'b', 'b'), put(5, 5, 'b', 'b')) // room is made by the same change
		change(t, x, put(4, 4, 'c'))
		if e := x.Change([]api.Edit{put(0, 0, 'd'), put(5, 5, 'e')}); e != api.ErrFull {
			t.Errorf("%d: past the limit in two edits: %d", enc, e)
		}
		shows(t, x, []int{'b', 'b', 'b', 'b', 'c'}, []int{-1, -1, -1, -1, -1})
	}
	full := open(t, api.Latin1, make([]byte, 65536), 65536)
	if e := full.Change([]api.Edit{put(7, 7, 1)}); e != api.ErrFull {
		t.Errorf("past MaxBytes: %d", e)
	}
	change(t, full, put(0, 1), put(65536, 65536, 1))
	if full.Size() != 65536 || full.Tags(65535, 65536)[0] != -1 || full.Tags(0, 1)[0] != 1 {
		t.Error("at MaxBytes")
	}
}

func TestChangeManyEdits(t *testing.T) {
	x := open(t, api.UTF8, []byte("abc"), 65536)
	if e := x.Change(make([]api.Edit, 70000)); e != api.OK {
		t.Errorf("MaxEdits empty edits: %d", e)
	}
	shows(t, x, []int{'a', 'b', 'c'}, []int{0, 1, 2})
	if e := x.Change(make([]api.Edit, 70001)); e != api.ErrLong {
		t.Errorf("one edit too many: %d", e)
	}
	edits, want := []api.Edit{}, []int{'a'}
	for i := range 65533 {
		edits = append(edits, put(1, 1, 32+i%90))
		want = append(want, 32+i%90)
	}
	change(t, x, edits...)
	if want = append(want, 'b', 'c'); !slices.Equal(x.Atoms(0, 70000), want) {
		t.Error("65533 puts at one place")
	}
	edits = edits[:0]
	for i := range 65536 {
		edits = append(edits, put(i, i+1, 'x'))
	}
	change(t, x, edits...)
	if x.Len() != 65536 || slices.ContainsFunc(x.Atoms(0, 65536), func(a int) bool { return a != 'x' }) {
		t.Error("65536 edits that touch one another")
	}
}

func TestChangeShapes(t *testing.T) {
	for _, enc := range encodings {
		b, _, _ := codec.Encode(enc, []int{'a', 'b', 'c', 'd'})
		for i, edits := range [][]api.Edit{
			nil,
			{},
			{put(0, 0)}, {put(4, 4)}, {put(2, 2), put(2, 2), put(4, 4)},
			{put(0, 1), put(1, 2), put(2, 4)},
			{put(0, 2, 'x'), put(2, 4, 'y')},
			{put(1, 1, 'x'), put(1, 1), put(1, 1, 'y', 'z')},
			{put(1, 1, 'x'), put(1, 3, 'y'), put(3, 3, 'z')},
			{put(0, 0, 'x'), put(4, 4, 'y')},
			{put(4, 4, 'x'), put(4, 4, 'y')},
			{put(1, 2, 'b')}, // the same atom, another tag
			{put(0, 4, 'a', 'b', 'c', 'd')},
			{put(0, 4)},
			{put(1, 3), put(3, 3, 'q')},
		} {
			x, m := open(t, enc, b, 40), modelOf(enc, b, 40)
			if got, want := x.Change(edits), m.change(edits); got != want || got != api.OK {
				t.Errorf("%d, case %d: %d", enc, i, got)
			}
			same(t, x, m, rand.New(rand.NewSource(int64(i))))
		}
	}
}

// Long rows of changes, each state held against plain lists; states are kept and taken back on the way.
func TestChangeAtRandom(t *testing.T) {
	for _, enc := range encodings {
		for seed := range 12 {
			r := rand.New(rand.NewSource(int64(504 + seed)))
			limit := []int{60, 900, 5000, 65536}[seed%4]
			b := someBytes(r.Intn(limit/2), r)
			x, m := open(t, enc, b, limit), modelOf(enc, b, limit)
			snaps, models := []*piece.Snap{x.Snap()}, []model{m}
			for step := range 150 {
				edits := someEdits(m, r)
				if got, want := x.Change(edits), m.change(edits); got != want {
					t.Fatalf("encoding %d, seed %d, step %d: %d, want %d", enc, seed, step, got, want)
				}
				same(t, x, m, r)
				switch r.Intn(8) {
				case 0:
					snaps, models = append(snaps, x.Snap()), append(models, m)
				case 1:
					i := r.Intn(len(snaps))
					if e := x.Back(snaps[i]); e != api.OK {
						t.Fatalf("Back: %d", e)
					}
					m = models[i]
					same(t, x, m, r)
				}
			}
		}
	}
}

// Edits far apart and near, in one change, over a great text of many small pieces.
func TestChangeFarAndNear(t *testing.T) {
	r := rand.New(rand.NewSource(5040))
	for _, enc := range encodings {
		b := someBytes(40000, r)
		x, m := open(t, enc, b, 65536), modelOf(enc, b, 65536)
		for _, gap := range []int{1, 3, 200, 1022, 1023, 1024, 1025, 1026, 3000} {
			var edits []api.Edit
			for at := r.Intn(gap); at+2 <= len(m.atoms); at += gap + 2 {
				edits = append(edits, api.Edit{From: at, To: at + 2, Put: someAtoms(enc, 1+r.Intn(2), r)})
			}
			if got, want := x.Change(edits), m.change(edits); got != want {
				t.Fatalf("encoding %d, gap %d: %d, want %d", enc, gap, got, want)
			}
			same(t, x, m, r)
		}
	}
}

// Typed and taken back atom by atom, at one place and at others.
func TestTyping(t *testing.T) {
	r := rand.New(rand.NewSource(5041))
	for _, enc := range encodings {
		b := someBytes(600, r)
		x, m := open(t, enc, b, 65536), modelOf(enc, b, 65536)
		at := len(m.atoms) / 2
		for i := range 900 {
			edits := []api.Edit{put(at, at, someAtom(enc, r))}
			at++
			if i%7 == 6 {
				at -= 2
				edits = []api.Edit{put(at, at+1)}
			}
			if i%97 == 96 {
				at = r.Intn(len(m.atoms) + 1)
				edits = nil
			}
			if got, want := x.Change(edits), m.change(edits); got != want {
				t.Fatalf("%d, want %d", got, want)
			}
			at = max(min(at, len(m.atoms)), 3)
			if i%20 == 0 {
				same(t, x, m, r)
			}
		}
		same(t, x, m, r)
	}
}
