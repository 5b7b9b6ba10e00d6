package piece_test

import (
	"bytes"
	"math/rand"
	"slices"
	"testing"

	"copyist/api"
	"copyist/codec"
	"copyist/piece"
)

var encodings = []int{api.UTF8, api.UTF16LE, api.UTF16BE, api.Latin1}

// model is what a text is, seen from outside: plain lists.
type model struct {
	enc, limit  int
	atoms, tags []int
}

func modelOf(enc int, b []byte, limit int) model {
	m := model{enc: enc, limit: limit}
	m.atoms, _ = codec.Decode(enc, b)
	at := 0
	for _, a := range m.atoms {
		m.tags = append(m.tags, at)
		at += codec.Size(enc, a)
	}
	return m
}

func (m model) size() int {
	n := 0
	for _, a := range m.atoms {
		n += codec.Size(m.enc, a)
	}
	return n
}

// bytes asks for each atom alone, so that it leans on no reading of neighbours.
func (m model) bytes() []byte {
	var out []byte
	for _, a := range m.atoms {
		b, _, _ := codec.Encode(m.enc, []int{a})
		out = append(out, b...)
	}
	return out
}

// ends tells the offsets right behind the breaks, by the definition.
func (m model) ends() []int {
	var out []int
	for i, a := range m.atoms {
		cr := a == 13 && !(i+1 < len(m.atoms) && m.atoms[i+1] == 10)
		if a == 10 || cr {
			out = append(out, i+1)
		}
	}
	return out
}

func (m model) check(edits []api.Edit) api.Errno {
	if len(edits) > 70000 {
		return api.ErrLong
	}
	for i, e := range edits {
		if e.From < 0 || e.To < e.From || e.To > len(m.atoms) || i+1 < len(edits) && edits[i+1].From < e.To {
			return api.ErrRange
		}
	}
	for _, e := range edits {
		for _, a := range e.Put {
			if !codec.Fits(m.enc, a) {
				return api.ErrFit
			}
		}
	}
	if m.done(edits).size() > m.limit {
		return api.ErrFull
	}
	return api.OK
}

func (m model) done(edits []api.Edit) model {
	out := model{enc: m.enc, limit: m.limit}
	at := 0
	for _, e := range edits {
		out.atoms = append(out.atoms, m.atoms[at:e.From]...)
		out.tags = append(out.tags, m.tags[at:e.From]...)
		for _, a := range e.Put {
			out.atoms, out.tags = append(out.atoms, a), append(out.tags, -1)
		}
		at = e.To
	}
	out.atoms = append(out.atoms, m.atoms[at:]...)
	out.tags = append(out.tags, m.tags[at:]...)
	return out
}

func (m *model) change(edits []api.Edit) api.Errno {
	e := m.check(edits)
	if e == api.OK {
		*m = m.done(edits)
	}
	return e
}

func put(from, to int, atoms ...int) api.Edit { return api.Edit{From: from, To: to, Put: atoms} }

func open(t *testing.T, enc int, b []byte, limit int) *piece.Text {
	t.Helper()
	x, e := piece.Open(enc, b, limit)
	if x == nil || e != api.OK {
		t.Fatalf("Open(%d, %d bytes, %d): %v, %d", enc, len(b), limit, x, e)
	}
	return x
}

func change(t *testing.T, x *piece.Text, edits ...api.Edit) {
	t.Helper()
	if e := x.Change(edits); e != api.OK {
		t.Fatalf("Change(%v): %d", edits, e)
	}
}

func shows(t *testing.T, x *piece.Text, atoms, tags []int) {
	t.Helper()
	if got := x.Atoms(0, x.Len()); !slices.Equal(got, atoms) {
		t.Fatalf("Atoms: %v, want %v", got, atoms)
	}
	if got := x.Tags(0, x.Len()); !slices.Equal(got, tags) {
		t.Fatalf("Tags: %v, want %v", got, tags)
	}
}

// same holds a text against plain lists: all of it, and some windows and places.
func same(t *testing.T, x *piece.Text, m model, r *rand.Rand) {
	t.Helper()
	if x.Enc() != m.enc || x.Len() != len(m.atoms) || x.Size() != m.size() {
		t.Fatalf("Enc %d, Len %d, Size %d, want %d, %d, %d", x.Enc(), x.Len(), x.Size(), m.enc, len(m.atoms), m.size())
	}
	shows(t, x, m.atoms, m.tags)
	if got := x.Bytes(); !bytes.Equal(got, m.bytes()) {
		t.Fatalf("Bytes: %x, want %x", got, m.bytes())
	}
	n := len(m.atoms)
	for range 5 {
		from, to := r.Intn(n+3)-1, r.Intn(n+3)-1
		a, b := max(from, 0), min(to, n)
		b = max(a, b)
		if a > n {
			a, b = n, n
		}
		if got := x.Atoms(from, to); !slices.Equal(got, m.atoms[a:b]) {
			t.Fatalf("Atoms(%d, %d): %v, want %v", from, to, got, m.atoms[a:b])
		}
		if got := x.Tags(from, to); !slices.Equal(got, m.tags[a:b]) {
			t.Fatalf("Tags(%d, %d): %v, want %v", from, to, got, m.tags[a:b])
		}
	}
	sameBreaks(t, x, m, r)
}

func sameBreaks(t *testing.T, x *piece.Text, m model, r *rand.Rand) {
	t.Helper()
	ends, n := m.ends(), len(m.atoms)
	for range 10 {
		at := r.Intn(n+5) - 2
		want := 0
		for _, e := range ends {
			if e <= at {
				want++
			}
		}
		if got := x.Breaks(at); got != want {
			t.Fatalf("Breaks(%d): %d, want %d, of %v", at, got, want, m.atoms)
		}
		k := r.Intn(len(ends)+4) - 1
		if got := x.Seek(k); got != seek(ends, k) {
			t.Fatalf("Seek(%d): %d, want %d, of %v", k, got, seek(ends, k), m.atoms)
		}
	}
}

func seek(ends []int, k int) int {
	switch {
	case k == 0:
		return 0
	case k < 0 || k > len(ends):
		return -1
	}
	return ends[k-1]
}

// breaksAll holds Breaks and Seek against the definition at every place.
func breaksAll(t *testing.T, x *piece.Text, atoms []int) {
	t.Helper()
	ends := model{atoms: atoms}.ends()
	for at := -2; at <= len(atoms)+2; at++ {
		want := 0
		for _, e := range ends {
			if e <= at {
				want++
			}
		}
		if got := x.Breaks(at); got != want {
			t.Fatalf("Breaks(%d): %d, want %d, of %v", at, got, want, atoms)
		}
	}
	for k := -2; k <= len(ends)+2; k++ {
		if got := x.Seek(k); got != seek(ends, k) {
			t.Fatalf("Seek(%d): %d, want %d, of %v", k, got, seek(ends, k), atoms)
		}
	}
}

// someAtom gives an atom that fits: breaks, raw bytes that would melt, halves of pairs, and others.
func someAtom(enc int, r *rand.Rand) int {
	wide := []int{10, 13, 'a', 0xE9, 0x20AC, 0x1F600, 0xD83D, 0xDE00, 0xDC00, -1, -11, -14, -196, -217, -223}
	narrow := []int{10, 13, 'a', 0xE9, 0x20AC, 0x1F600, -1 - 0xC3, -1 - 0xA9, -1 - 0xE2, -1 - 0x82, -1 - 0xAC, -1 - 0xF0, -1 - 0x9F, -1 - 0x98, -1 - 0x80}
	latin := []int{10, 13, 'a', 0xE9, 0xFF, 0}
	switch enc {
	case api.UTF8:
		return narrow[r.Intn(len(narrow))]
	case api.Latin1:
		return latin[r.Intn(len(latin))]
	}
	return wide[r.Intn(len(wide))]
}

func someAtoms(enc, n int, r *rand.Rand) []int {
	out := make([]int, n)
	for i := range out {
		out[i] = someAtom(enc, r)
	}
	return out
}

// someBytes gives bytes of which many form rows, pairs and breaks, and many do not.
func someBytes(n int, r *rand.Rand) []byte {
	from := []byte{10, 13, 0, 0, 'a', 0xC3, 0xA9, 0xE2, 0x82, 0xAC, 0xF0, 0x9F, 0x98, 0x80, 0xD8, 0x3D, 0xDE, 0xFF, 0xFE}
	out := make([]byte, n)
	for i := range out {
		out[i] = from[r.Intn(len(from))]
	}
	return out
}

// someEdits gives edits in order; now and then with a fault.
func someEdits(m model, r *rand.Rand) []api.Edit {
	var edits []api.Edit
	at := 0
	for range r.Intn(5) {
		from := at + r.Intn(len(m.atoms)-at+1)/(1+r.Intn(4))
		to := from
		if r.Intn(3) > 0 {
			to += r.Intn(min(len(m.atoms)-from, 1+r.Intn(600)) + 1)
		}
		var atoms []int
		if r.Intn(4) > 0 {
			atoms = someAtoms(m.enc, r.Intn(1+r.Intn(1+r.Intn(700))), r)
		}
		edits = append(edits, api.Edit{From: from, To: to, Put: atoms})
		at = to
	}
	if len(edits) > 0 && r.Intn(12) == 0 {
		e := &edits[r.Intn(len(edits))]
		switch r.Intn(5) {
		case 0:
			e.From = -1 - r.Intn(3)
		case 1:
			e.To = len(m.atoms) + 1 + r.Intn(3)
		case 2:
			e.To = e.From - 1
		case 3:
			e.Put = append(slices.Clone(e.Put), 0x110000)
		case 4:
			e.Put = append(slices.Clone(e.Put), -257)
		}
	}
	return edits
}
