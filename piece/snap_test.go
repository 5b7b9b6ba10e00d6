package piece_test

import (
	"math/rand"
	"testing"

	"copyist/api"
	"copyist/piece"
)

func TestBackRefuses(t *testing.T) {
	x, y := open(t, api.UTF8, []byte("ab"), 10), open(t, api.UTF8, []byte("ab"), 10)
	s, o := x.Snap(), y.Snap()
	if s == nil || o == nil {
		t.Fatal("Snap answered nil")
	}
	change(t, x, put(0, 1, 'z'))
	for i, c := range []struct {
		s *piece.Snap
		e api.Errno
	}{{nil, api.ErrSnap}, {o, api.ErrSnap}, {new(piece.Snap), api.ErrSnap}} {
		if e := x.Back(c.s); e != c.e {
			t.Errorf("case %d: %d, want %d", i, e, c.e)
		}
		shows(t, x, []int{'z', 'b'}, []int{-1, 1})
	}
	if e := y.Back(s); e != api.ErrSnap {
		t.Errorf("another text's: %d", e)
	}
	if e := x.Back(s); e != api.OK {
		t.Errorf("its own: %d", e)
	}
	shows(t, x, []int{'a', 'b'}, []int{0, 1})
	empty := open(t, api.Latin1, nil, 0)
	if none := empty.Snap(); none == nil || empty.Back(none) != api.OK || empty.Len() != 0 || x.Back(none) != api.ErrSnap {
		t.Error("the state of an empty text")
	}
}

// States taken back many times, in any order, each followed by changes.
func TestBackManyTimes(t *testing.T) {
	r := rand.New(rand.NewSource(508))
	for _, enc := range encodings {
		b := someBytes(800, r)
		x, m := open(t, enc, b, 9000), modelOf(enc, b, 9000)
		var snaps []*piece.Snap
		var models []model
		for range 20 {
			snaps, models = append(snaps, x.Snap()), append(models, m)
			edits := someEdits(m, r)
			if got, want := x.Change(edits), m.change(edits); got != want {
				t.Fatalf("%d, want %d", got, want)
			}
		}
		for range 100 {
			i := r.Intn(len(snaps))
			if e := x.Back(snaps[i]); e != api.OK {
				t.Fatalf("Back: %d", e)
			}
			same(t, x, models[i], r)
			if r.Intn(2) == 0 {
				x.Change(someEdits(models[i], r))
			}
		}
	}
}

// Two states of one moment are the same, and a refused change is no change of what is kept.
func TestSnapKeeps(t *testing.T) {
	x := open(t, api.UTF8, []byte("abc"), 4)
	s, again := x.Snap(), x.Snap()
	change(t, x, put(1, 2, 'z'))
	later := x.Snap()
	if e := x.Change([]api.Edit{put(0, 0, 'a', 'a')}); e != api.ErrFull {
		t.Errorf("%d", e)
	}
	for range 3 {
		x.Back(s)
		shows(t, x, []int{'a', 'b', 'c'}, []int{0, 1, 2})
		change(t, x, put(0, 3))
		x.Back(later)
		shows(t, x, []int{'a', 'z', 'c'}, []int{0, -1, 2})
		x.Back(again)
		shows(t, x, []int{'a', 'b', 'c'}, []int{0, 1, 2})
	}
}
