package piece

import (
	"math/rand"
	"slices"
	"strings"
	"testing"

	"copyist/api"
	"copyist/codec"
)

// sound looks at each piece of a text: what is promised of the text leans on it.
func sound(t *testing.T, x *Text) {
	t.Helper()
	for p := range x.pieces.Items(0) {
		if len(p.bytes) == 0 || len(p.bytes) > maxPiece || cap(p.bytes) != len(p.bytes) {
			t.Fatalf("a piece of %d bytes, with room for %d", len(p.bytes), cap(p.bytes))
		}
		var want span
		for k := 0; k < len(p.bytes); {
			atom, size := codec.Next(x.enc, p.bytes, k)
			want = want.Add(single(atom, size))
			k += size
		}
		if p.sum != want {
			t.Fatalf("%v, want %v, of %x", p.sum, want, p.bytes)
		}
		if p.place != added && &p.bytes[0] != &x.loaded[p.place] {
			t.Fatalf("the piece at %d lies elsewhere", p.place)
		}
	}
}

func atRandom(enc int, r *rand.Rand) int {
	atoms := []int{10, 13, 'a', 0xE9}
	if enc == api.UTF8 {
		atoms = append(atoms, 0x20AC, -1-0xC3, -1-0xA9, -1-0xE2, -1-0x82, -1-0xAC)
	} else if enc != api.Latin1 {
		atoms = append(atoms, 0x1F600, 0xD83D, 0xDE00, -1, -11)
	}
	return atoms[r.Intn(len(atoms))]
}

func TestPiecesAreSound(t *testing.T) {
	for _, enc := range []int{api.UTF8, api.UTF16LE, api.UTF16BE, api.Latin1} {
		r := rand.New(rand.NewSource(int64(enc)))
		b := make([]byte, 3001)
		for i := range b {
			b[i] = []byte{10, 13, 0, 'a', 0xC3, 0xA9, 0xD8, 0xDC, 0xE2, 0x82, 0xAC}[r.Intn(11)]
		}
		x, _ := Open(enc, b, api.MaxBytes)
		sound(t, x)
		for range 300 {
			from := r.Intn(x.Len() + 1)
			to := min(from+r.Intn(20), x.Len())
			put := make([]int, r.Intn(22))
			for i := range put {
				put[i] = atRandom(enc, r)
			}
			if e := x.Change([]api.Edit{{From: from, To: to, Put: put}}); e != api.OK {
				t.Fatal(e)
			}
			sound(t, x)
		}
	}
}

// A text that is typed atom by atom lies in few pieces.
func TestTypedTextIsGlued(t *testing.T) {
	for _, enc := range []int{api.UTF8, api.UTF16LE, api.UTF16BE, api.Latin1} {
		x, _ := Open(enc, nil, api.MaxBytes)
		for i := range 2000 {
			if e := x.Change([]api.Edit{{From: i, To: i, Put: []int{'a'}}}); e != api.OK {
				t.Fatal(e)
			}
		}
		if n := x.pieces.Size(); n > 2*x.Size()/maxPiece {
			t.Errorf("encoding %d: %d pieces", enc, n)
		}
		sound(t, x)
	}
}

// Loaded text that was parted and comes together again is one piece again; so edits that do nothing leave no trace.
func TestLoadedTextIsGlued(t *testing.T) {
	x, _ := Open(api.UTF8, []byte(strings.Repeat("añb\r\n", 10)), api.MaxBytes)
	for i := range x.Len() {
		x.Change([]api.Edit{{From: i, To: i, Put: []int{'z'}}})
		x.Change([]api.Edit{{From: i, To: i + 1}})
	}
	x.Change([]api.Edit{{From: 3, To: 3}, {From: 9, To: 9}, {From: 12, To: 12}})
	if n := x.pieces.Size(); n != 1 {
		t.Errorf("%d pieces", n)
	}
	sound(t, x)
}

// What was put keeps no memory of others alive: each piece has its own.
func TestPutPiecesShareNothing(t *testing.T) {
	x, _ := Open(api.UTF8, nil, api.MaxBytes)
	x.Change([]api.Edit{{Put: slices.Repeat([]int{'a'}, 1000)}})
	var all []piece
	for p := range x.pieces.Items(0) {
		all = append(all, p)
	}
	if len(all) < 4 {
		t.Fatalf("%d pieces", len(all))
	}
	for _, p := range all {
		p.bytes[0] = 'z'
	}
	if got := x.Bytes(); strings.Count(string(got), "z") != len(all) {
		t.Error("two pieces share a byte")
	}
	sound(t, x)
}

// What lies between edits far apart is not made anew: the states share its bytes.
func TestFarEditsLeaveTheRest(t *testing.T) {
	x, _ := Open(api.UTF8, nil, api.MaxBytes)
	x.Change([]api.Edit{{Put: slices.Repeat([]int{'a'}, 20*maxPiece)}})
	middle, _ := x.pieces.At(10)
	x.Change([]api.Edit{{From: 1, To: 2, Put: []int{'b'}}, {From: 20*maxPiece - 2, To: 20*maxPiece - 1, Put: []int{'c'}}})
	found := false
	for p := range x.pieces.Items(0) {
		found = found || &p.bytes[0] == &middle.bytes[0]
	}
	if !found {
		t.Error("a piece in the midst was made anew")
	}
}

func TestSpansAdd(t *testing.T) {
	var all []span
	for _, atoms := range [][]int{{}, {'a'}, {10}, {13}, {13, 10}, {10, 13}, {'a', 13}, {10, 'a'}, {13, 13}, {10, 10}} {
		var s span
		for _, a := range atoms {
			s = s.Add(single(a, 1))
		}
		all = append(all, s)
	}
	for _, x := range all {
		for _, y := range all {
			if x.Add(y).Key(byBreaks) < x.Key(byBreaks) || x.Add(y).Key(byAtoms) < x.Key(byAtoms) || x.Key(7) != 0 {
				t.Errorf("%v and %v: a number falls", x, y)
			}
			for _, z := range all {
				if x.Add(y).Add(z) != x.Add(y.Add(z)) {
					t.Errorf("%v, %v, %v: not associative", x, y, z)
				}
			}
		}
	}
}
