package piece_test

import (
	"bytes"
	"math"
	"math/rand"
	"slices"
	"testing"

	"copyist/api"
	"copyist/codec"
	"copyist/piece"
)

// The chapter's own examples, in their order.
func TestExamples(t *testing.T) {
	a := open(t, api.UTF8, []byte{0x61, 0x0D, 0xC3, 0x28}, 10)
	shows(t, a, []int{97, 13, -196, 40}, []int{0, 1, 2, 3})
	if a.Len() != 4 || a.Size() != 4 || a.Breaks(1) != 0 || a.Breaks(2) != 1 || a.Seek(1) != 2 || a.Seek(2) != -1 {
		t.Error("behind Open")
	}
	steps := []struct {
		edits       []api.Edit
		e           api.Errno
		atoms, tags []int
	}{
		{[]api.Edit{put(2, 2, 10)}, api.OK, []int{97, 13, 10, -196, 40}, []int{0, 1, -1, 2, 3}},
		{[]api.Edit{put(4, 4, -170)}, api.OK, []int{97, 13, 10, -196, -170, 40}, []int{0, 1, -1, 2, -1, 3}},
		{[]api.Edit{put(0, 1), put(1, 1, 120), put(1, 2)}, api.OK, []int{120, 10, -196, -170, 40}, []int{-1, -1, 2, -1, 3}},
		{[]api.Edit{put(0, 1), put(0, 0, 65)}, api.ErrRange, nil, nil},
		{[]api.Edit{put(0, 0, 8364, 8364)}, api.ErrFull, nil, nil},
		{[]api.Edit{put(0, 9, -66)}, api.ErrRange, nil, nil},
		{[]api.Edit{put(0, 0, -66)}, api.ErrFit, nil, nil},
		{[]api.Edit{put(5, 5, 8364)}, api.OK, []int{120, 10, -196, -170, 40, 8364}, []int{-1, -1, 2, -1, 3, -1}},
	}
	atoms, tags := a.Atoms(0, 4), a.Tags(0, 4)
	for i, s := range steps {
		if e := a.Change(s.edits); e != s.e {
			t.Errorf("step %d: %d, want %d", i, e, s.e)
		}
		if s.e == api.OK {
			atoms, tags = s.atoms, s.tags
		}
		shows(t, a, atoms, tags)
		switch i {
		case 0:
			if a.Breaks(2) != 0 || a.Breaks(3) != 1 || a.Seek(1) != 3 {
				t.Error("P506: a CR and an LF together")
			}
		case 2:
			if a.Size() != 5 || a.Breaks(2) != 1 {
				t.Error("P506: the LF alone")
			}
		}
	}
	if a.Size() != 8 {
		t.Errorf("Size: %d", a.Size())
	}
	if got := gather(a.Chunks(3)); !sameLists(got, [][]byte{{0x78, 0x0A, 0xC3}, {0xA9, 0x28, 0xE2}, {0x82, 0xAC}}) {
		t.Errorf("Chunks(3): %x", got)
	}
	if x, y, z := a.Atoms(-7, 2), a.Tags(4, 99), a.Atoms(3, 1); !slices.Equal(x, []int{120, 10}) || !slices.Equal(y, []int{3, -1}) || len(z) != 0 {
		t.Errorf("P503: %v, %v, %v", x, y, z)
	}
	s := a.Snap()
	change(t, a, put(0, 6))
	if a.Len() != 0 || a.Seek(0) != 0 || len(a.Bytes()) != 0 {
		t.Error("everything taken away")
	}
	if a.Back(s) != api.OK || a.Back(nil) != api.ErrSnap {
		t.Error("Back")
	}
	shows(t, a, atoms, tags)
}

func TestOpenRefuses(t *testing.T) {
	three := []byte{1, 2, 3}
	for _, c := range []struct {
		enc   int
		b     []byte
		limit int
		e     api.Errno
	}{
		{api.Auto, nil, 5, api.ErrEnc}, {5, three, -1, api.ErrEnc}, {-1, three, 2, api.ErrEnc},
		{math.MaxInt, nil, 65537, api.ErrEnc}, {math.MinInt, nil, 0, api.ErrEnc},
		{api.UTF8, three, -1, api.ErrArg}, {api.UTF16LE, nil, 65537, api.ErrArg}, {api.Latin1, nil, math.MinInt, api.ErrArg},
		{api.UTF16BE, three, math.MaxInt, api.ErrArg}, {api.UTF8, make([]byte, 65537), 65537, api.ErrArg},
		{api.UTF8, three, 2, api.ErrFull}, {api.UTF8, three, 0, api.ErrFull}, {api.Latin1, make([]byte, 65537), 65536, api.ErrFull},
	} {
		if x, e := piece.Open(c.enc, c.b, c.limit); x != nil || e != c.e {
			t.Errorf("Open(%d, %d bytes, %d): %v, %d, want nil, %d", c.enc, len(c.b), c.limit, x, e, c.e)
		}
	}
}

func TestOpenAnyBytes(t *testing.T) {
	r := rand.New(rand.NewSource(501))
	for _, enc := range encodings {
		for _, n := range []int{0, 1, 2, 3, 4, 5, 254, 255, 256, 257, 258, 259, 511, 512, 513, 1000, 3001} {
			for range 8 {
				b := someBytes(n, r)
				same(t, open(t, enc, b, n), modelOf(enc, b, n), r)
			}
		}
		whole := someBytes(65536, r)
		same(t, open(t, enc, whole, 65536), modelOf(enc, whole, 65536), r)
	}
}

func TestOpenWhatTheChapterNames(t *testing.T) {
	x := open(t, api.UTF16LE, []byte{10, 0, 13, 0, 10}, 5)
	shows(t, x, []int{10, 13, -11}, []int{0, 2, 4})
	breaksAll(t, x, []int{10, 13, -11})
	// A byte order mark is a scalar like others here.
	shows(t, open(t, api.UTF8, []byte{0xEF, 0xBB, 0xBF, 'a'}, 4), []int{0xFEFF, 'a'}, []int{0, 3})
	shows(t, open(t, api.UTF16BE, []byte{0xFE, 0xFF, 0, 'a'}, 4), []int{0xFEFF, 'a'}, []int{0, 2})
	shows(t, open(t, api.Latin1, []byte{0xFF, 0xFE}, 9), []int{0xFF, 0xFE}, []int{0, 1})
	empty := open(t, api.UTF16BE, nil, 0)
	same(t, empty, model{enc: api.UTF16BE}, rand.New(rand.NewSource(1)))
	if e := empty.Change([]api.Edit{put(0, 0, 'a')}); e != api.ErrFull {
		t.Errorf("a put into a text of limit 0: %d", e)
	}
}

func TestSizes(t *testing.T) {
	atoms := []int{'a', 0xE9, 0x20AC, 0x1F600, -1 - 0xC3}
	for enc, want := range map[int]int{api.UTF8: 1 + 2 + 3 + 4 + 1, api.UTF16LE: 2 + 2 + 2 + 4 + 1, api.UTF16BE: 2 + 2 + 2 + 4 + 1} {
		x := open(t, enc, nil, 20)
		change(t, x, put(0, 0, atoms...))
		if x.Enc() != enc || x.Len() != 5 || x.Size() != want {
			t.Errorf("Enc %d, Len %d, Size %d, want %d, 5, %d", x.Enc(), x.Len(), x.Size(), enc, want)
		}
	}
	x := open(t, api.Latin1, []byte("ab"), 5)
	change(t, x, put(1, 1, 0xE9, 0xFF))
	if x.Enc() != api.Latin1 || x.Len() != 4 || x.Size() != 4 {
		t.Errorf("Latin1: Enc %d, Len %d, Size %d", x.Enc(), x.Len(), x.Size())
	}
}

func TestLooking(t *testing.T) {
	for _, enc := range encodings {
		b, _, _ := codec.Encode(enc, []int{'a', 0xE9, 13, 10, 'b'})
		x, m := open(t, enc, b, 100), modelOf(enc, b, 100)
		edits := []api.Edit{put(2, 2, 0xFF), put(4, 5)}
		change(t, x, edits...)
		m.change(edits)
		ints := []int{math.MinInt, math.MinInt + 1, -2, -1, 0, 1, 2, 3, 4, 5, 6, 7, 1 << 32, math.MaxInt - 1, math.MaxInt}
		for _, from := range ints {
			for _, to := range ints {
				var atoms, tags []int
				for i := range m.atoms {
					if from <= i && i < to {
						atoms, tags = append(atoms, m.atoms[i]), append(tags, m.tags[i])
					}
				}
				if got := x.Atoms(from, to); !slices.Equal(got, atoms) {
					t.Errorf("%d: Atoms(%d, %d): %v, want %v", enc, from, to, got, atoms)
				}
				if got := x.Tags(from, to); !slices.Equal(got, tags) {
					t.Errorf("%d: Tags(%d, %d): %v, want %v", enc, from, to, got, tags)
				}
			}
		}
	}
}

func TestLookingAtEveryPlace(t *testing.T) {
	r := rand.New(rand.NewSource(503))
	for _, enc := range encodings {
		b := someBytes(700, r)
		x, m := open(t, enc, b, 5000), modelOf(enc, b, 5000)
		edits := []api.Edit{put(100, 130, someAtoms(enc, 400, r)...), put(131, 131, 'a'), put(200, 210)}
		change(t, x, edits...)
		m.change(edits)
		for i := range m.atoms {
			if a, g := x.Atoms(i, i+1), x.Tags(i, i+1); !slices.Equal(a, m.atoms[i:i+1]) || !slices.Equal(g, m.tags[i:i+1]) {
				t.Fatalf("%d: at %d: %v, %v, want %d, %d", enc, i, a, g, m.atoms[i], m.tags[i])
			}
		}
		breaksAll(t, x, m.atoms)
	}
}

func TestOwnMemory(t *testing.T) {
	room := []byte("abcdef")
	x := open(t, api.UTF8, room[:3], 100)
	y := open(t, api.UTF8, room[:3], 100)
	if string(room) != "abcdef" {
		t.Errorf("Open wrote into what it was given: %q", room)
	}
	copy(room, "zzzzzz")
	atoms := []int{'d', 'e', 'f', 'g'}
	edits := []api.Edit{put(0, 0, atoms[:2]...), put(1, 2, 'B'), put(3, 3)}
	kept := slices.Clone(edits)
	change(t, x, edits[:2]...)
	if !slices.Equal(atoms, []int{'d', 'e', 'f', 'g'}) || len(edits) != 3 || edits[2].From != 3 || !slices.Equal(edits[0].Put, kept[0].Put) || !slices.Equal(edits[1].Put, kept[1].Put) {
		t.Error("the lists that were handed in have changed")
	}
	if string(room) != "zzzzzz" {
		t.Error("the loaded bytes were written")
	}
	for i := range atoms {
		atoms[i] = 'z'
	}
	edits[1].Put[0] = 'z'
	if string(x.Bytes()) != "deaBc" || string(y.Bytes()) != "abc" {
		t.Errorf("%q, %q", x.Bytes(), y.Bytes())
	}
	scribble(x)
	scribble(y)
	if string(x.Bytes()) != "deaBc" || string(y.Bytes()) != "abc" {
		t.Errorf("behind writing into answers: %q, %q", x.Bytes(), y.Bytes())
	}
	change(t, y, put(1, 2))
	if string(x.Bytes()) != "deaBc" || string(y.Bytes()) != "ac" {
		t.Errorf("two texts of the same bytes: %q, %q", x.Bytes(), y.Bytes())
	}
}

// scribble writes into all lists that a text answers, into their spare room too.
func scribble(x *piece.Text) {
	for _, l := range [][]int{x.Atoms(0, 99), x.Tags(0, 99), x.Atoms(1, 2), x.Tags(1, 2)} {
		l = l[:cap(l)]
		for i := range l {
			l[i] = 'q'
		}
	}
	lists := [][]byte{x.Bytes()}
	for _, size := range []int{1, 2, 3, 100} {
		lists = append(lists, gather(x.Chunks(size))...)
	}
	for _, l := range lists {
		l = l[:cap(l)]
		for i := range l {
			l[i] = 'q'
		}
	}
}

// Great lists lie in many pieces; each answer must be apart from all of them.
func TestOwnMemoryOfGreatTexts(t *testing.T) {
	r := rand.New(rand.NewSource(509))
	for _, enc := range encodings {
		b := someBytes(2000, r)
		x, m := open(t, enc, b, 9000), modelOf(enc, b, 9000)
		atoms := someAtoms(enc, 1500, r)
		mine := slices.Clone(atoms)
		change(t, x, put(300, 400, mine...))
		m.change([]api.Edit{put(300, 400, atoms...)})
		copy(b, bytes.Repeat([]byte{'q'}, len(b)))
		for i := range mine {
			mine[i] = 'q'
		}
		scribble(x)
		same(t, x, m, r)
	}
}
