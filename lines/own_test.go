package lines_test

import (
	"math/rand"
	"slices"
	"testing"

	"copyist/api"
	"copyist/lines"
	"copyist/piece"
)

// askAll asks every call at some arguments, wrong ones too.
func askAll(x *piece.Text) {
	lines.Count(x)
	lines.Kinds(x)
	lines.Native(x, 7)
	for range lines.All(x) {
	}
	for i := -1; i <= x.Len()+1; i++ {
		lines.At(x, i)
		lines.Of(x, i)
		lines.Whole(x, i, i)
		lines.Whole(x, 0, i)
		for native := range 5 {
			lines.Typed(x, i, []int{10, 'a', 13, 10}, native)
		}
	}
}

// P609: no call changes the text: its atoms, its tags, what is kept of it.
func TestNothingIsChanged(t *testing.T) {
	r := rand.New(rand.NewSource(609))
	for _, enc := range encodings {
		x := load(t, enc, letters("arnbrcnnd"))
		change(t, x, put(2, 2, 'z', 10), put(5, 6), put(9, 9, someAtoms(enc, 40, 40, r)...))
		atoms, tags, b, s := x.Atoms(0, 99), x.Tags(0, 99), x.Bytes(), x.Snap()
		askAll(x)
		if !slices.Equal(x.Atoms(0, 99), atoms) || !slices.Equal(x.Tags(0, 99), tags) || !slices.Equal(x.Bytes(), b) || x.Enc() != enc || x.Back(s) != api.OK {
			t.Errorf("encoding %d: the text has changed", enc)
		}
	}
}

// P609: what is answered hangs on the atoms alone: not on the bytes they lie in, not on the way they came there, not on what was asked ahead of it.
func TestAnswersHangOnTheAtoms(t *testing.T) {
	for i, s := range short(5) {
		atoms := letters(s)
		loaded := load(t, encodings[i%4], atoms)
		typed := load(t, encodings[(i+1)%4], letters("narn"))
		change(t, typed, put(0, 4))
		for k := len(atoms) - 1; k >= 0; k-- {
			change(t, typed, put(0, 0, atoms[k]))
		}
		askAll(typed)
		one, two := told(t, loaded), told(t, typed)
		if !slices.Equal(one, two) || lines.Count(loaded) != lines.Count(typed) || lines.Kinds(loaded) != lines.Kinds(typed) || lines.Native(loaded, 9) != lines.Native(typed, 9) {
			t.Fatalf("%q: %v loaded, %v typed", s, one, two)
		}
		for at := -1; at <= len(atoms)+1; at++ {
			a, e := lines.At(loaded, at)
			b, f := lines.At(typed, at)
			c, g := lines.Whole(loaded, 0, at)
			d, h := lines.Whole(typed, 0, at)
			if a != b || e != f || c != d || g != h || lines.Of(loaded, at) != lines.Of(typed, at) {
				t.Fatalf("%q at %d: one loaded, one typed", s, at)
			}
		}
	}
}

// Two texts have nothing in common.
func TestTwoTexts(t *testing.T) {
	x, y := load(t, api.UTF8, letters("arnb")), load(t, api.UTF8, letters("arnb"))
	all := lines.All(y)
	change(t, x, put(0, 4, 10, 10))
	if lines.Count(y) != 2 || lines.Kinds(y) != [4]int{1, 0, 1, 0} || len(gather(all)) != 2 || lines.Count(x) != 2 || lines.Kinds(x) != [4]int{0, 2, 0, 0} {
		t.Error("a change of one text is seen in another")
	}
}

func fill(l []int, atom int) {
	l = l[:cap(l)]
	for i := range l {
		l[i] = atom
	}
}

// What is handed in is neither written into nor kept; what is answered is new memory, the spare room of both too.
func TestTypedOwnMemory(t *testing.T) {
	x := load(t, api.UTF8, letters("arnb"))
	for _, native := range natives {
		for _, keys := range []string{"", "a", "n", "nn", "ana", "rn", "abcdefgh", "nnnnnnnnnnn"} {
			want := letters(keys)
			room := append(letters(keys), 7, 7, 7, 7)
			typed := room[:len(want)]
			first, _ := lines.Typed(x, 2, typed, native)
			kept := slices.Clone(first)
			if !slices.Equal(room, append(slices.Clone(want), 7, 7, 7, 7)) {
				t.Fatalf("%q, native %d: Typed wrote into what it was given: %v", keys, native, room)
			}
			second, _ := lines.Typed(x, 2, typed, native)
			fill(first, -5)
			if !slices.Equal(second, kept) || !slices.Equal(room, append(slices.Clone(want), 7, 7, 7, 7)) {
				t.Fatalf("%q, native %d: what was answered is shared: %v, %v", keys, native, second, room)
			}
			fill(room, -6)
			if !slices.Equal(second, kept) {
				t.Fatalf("%q, native %d: what was handed in is kept: %v", keys, native, second)
			}
			third, _ := lines.Typed(x, 2, want, native)
			if !slices.Equal(third, kept) || !slices.Equal(x.Atoms(0, 9), letters("arnb")) {
				t.Fatalf("%q, native %d: behind writing into lists: %v, want %v", keys, native, third, kept)
			}
		}
	}
}

// Kinds answers an array: a value of its own.
func TestKindsIsOwn(t *testing.T) {
	x := load(t, api.UTF8, letters("anb"))
	kinds := lines.Kinds(x)
	kinds[1] = 77
	if got := lines.Kinds(x); got != [4]int{1, 1, 0, 0} {
		t.Errorf("%v", got)
	}
}
