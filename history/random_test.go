package history_test

import (
	"math/rand"
	"slices"
	"testing"

	"copyist/api"
	"copyist/codec"
)

// someOffset is mostly a good one, and sometimes just outside or far off.
func (p *pair) someOffset(r *rand.Rand) int {
	n := p.text.Len()
	switch r.Intn(12) {
	case 0:
		return -1
	case 1:
		return n + 1
	case 2:
		return r.Int() - r.Int()
	case 3:
		return n
	case 4:
		return 0
	}
	return r.Intn(n + 1)
}

func (p *pair) someName(r *rand.Rand) int {
	if r.Intn(6) == 0 {
		return r.Intn(300) - 20
	}
	return []int{39, 60, 62, 'a', 'b', 'c', 'x', 'y', 'z'}[r.Intn(9)]
}

// someChange is mostly a good one.
func (p *pair) someChange(r *rand.Rand) {
	p.t.Helper()
	edits := someEdits(p.m.enc, p.text.Len(), r)
	if len(edits) > 0 && r.Intn(8) == 0 {
		e := &edits[r.Intn(len(edits))]
		switch r.Intn(3) {
		case 0:
			e.To = p.someOffset(r)
		case 1:
			e.From = p.someOffset(r)
		case 2:
			e.Put = append(e.Put, r.Intn(0x120000)-300)
		}
	}
	p.change(edits...)
}

// step does one call of any kind.
func (p *pair) step(r *rand.Rand) {
	p.t.Helper()
	switch k := r.Intn(26); {
	case k < 3:
		p.begin(p.someOffset(r))
	case k < 10:
		p.someChange(r)
	case k < 13:
		p.end(p.someOffset(r))
	case k == 13:
		p.drop()
	case k < 17:
		p.undo()
	case k < 20:
		p.redo()
	case k < 23:
		p.mark(p.someName(r), p.someOffset(r))
	case k == 23:
		var offsets []int
		for range r.Intn(6) {
			offsets = append(offsets, r.Intn(p.text.Len()+1))
		}
		if r.Intn(5) == 0 {
			offsets = append(offsets, p.someOffset(r))
		}
		p.watch(offsets...)
	case k == 24:
		p.saved()
	default:
		p.group(someEdits(p.m.enc, p.text.Len(), r)...)
	}
}

// Long rows of calls of all kinds, two Books in turns, each held against its model behind every call.
func TestAtRandom(t *testing.T) {
	for _, enc := range encodings {
		for seed := range 24 {
			r := rand.New(rand.NewSource(int64(700 + seed)))
			depth := []int{1, 2, 3, 7, 200}[seed%5]
			limit := []int{0, 12, 60, 400, 65536}[seed%5]
			var pairs [2]*pair
			for i := range pairs {
				b := make([]byte, r.Intn(min(limit, 300)+1))
				r.Read(b)
				pairs[i] = open(t, enc, b, limit, depth)
			}
			for range 600 {
				p := pairs[r.Intn(2)]
				p.step(r)
				if r.Intn(20) == 0 {
					p.rewind()
				}
			}
		}
	}
}

// rewind goes as far back as it can, and as far on again.
func (p *pair) rewind() {
	p.t.Helper()
	if p.b.IsOpen() {
		return
	}
	for {
		if _, e := p.undo(); e != api.OK {
			break
		}
	}
	for {
		if _, e := p.redo(); e != api.OK {
			break
		}
	}
}

// The loaded bytes come back behind as many undos as there were groups, whatever bytes they are; the last ones behind as many redos.
func TestBytesComeBack(t *testing.T) {
	r := rand.New(rand.NewSource(707))
	for _, enc := range encodings {
		for range 12 {
			loaded := make([]byte, r.Intn(3000))
			r.Read(loaded)
			p := open(t, enc, loaded, 65536, 200)
			tags := p.text.Tags(0, p.text.Len())
			for range 30 {
				at := r.Intn(p.text.Len() + 1)
				p.group(api.Edit{From: at, To: min(at+r.Intn(40), p.text.Len()), Put: someAtoms(enc, r.Intn(40), r)})
			}
			last, lastTags := p.text.Bytes(), p.text.Tags(0, p.text.Len())
			p.rewindTo(api.ErrOldest)
			if !slices.Equal(p.text.Bytes(), loaded) || !slices.Equal(p.text.Tags(0, len(loaded)), tags) || p.b.Dirty() {
				t.Fatalf("encoding %d: the loaded bytes are not back", enc)
			}
			p.rewindTo(api.ErrNewest)
			if !slices.Equal(p.text.Bytes(), last) || !slices.Equal(p.text.Tags(0, p.text.Len()), lastTags) {
				t.Fatalf("encoding %d: the last bytes are not back", enc)
			}
		}
	}
}

// rewindTo undoes all (ErrOldest) or does all again (ErrNewest).
func (p *pair) rewindTo(end api.Errno) {
	p.t.Helper()
	for e := api.OK; e != end; {
		if end == api.ErrOldest {
			_, e = p.undo()
		} else {
			_, e = p.redo()
		}
	}
}

// A text as great as it may be, a Change of very many edits, 200 groups of typing: all of it goes back and on.
func TestAGreatText(t *testing.T) {
	for _, enc := range encodings {
		unit := codec.Size(enc, 'a')
		one, _, _ := codec.Encode(enc, []int{'a'})
		p := open(t, enc, slices.Repeat(one, 65536/unit), 65536, 200)
		n := p.text.Len()
		var edits []api.Edit
		for i := range n {
			edits = append(edits, put(i, i+1, "b"))
		}
		p.b.Begin(0)
		is(t, "Change", p.b.Change(edits), api.OK)
		is(t, "Change", p.b.Change([]api.Edit{put(0, 0, "x")}), api.ErrFull)
		p.b.End(n)
		for i := range 199 {
			p.b.Begin(i)
			is(t, "Change", p.b.Change([]api.Edit{put(i, i+1, "c")}), api.OK)
			is(t, "Change", p.b.Change([]api.Edit{put(n-1, n, ""), put(n, n, "d")}), api.OK)
			p.b.End(i + 1)
		}
		for i := 198; i >= 0; i-- {
			at, e := p.b.Undo()
			answers(t, "Undo", at, e, i)
		}
		if p.text.Tags(n-1, n)[0] != -1 || p.text.Atoms(n-1, n)[0] != 'b' {
			t.Error("behind the first group")
		}
		at, e := p.b.Undo()
		answers(t, "Undo", at, e, 0)
		same(t, p.b, p.text, modelAt(p))
		for range 200 {
			p.b.Redo()
		}
		if a := p.text.Atoms(0, n); a[0] != 'c' || a[198] != 'c' || a[199] != 'b' || a[n-1] != 'd' {
			t.Error("behind the last group")
		}
	}
}

// modelAt is the fresh model of p, with 200 groups that can be done again.
func modelAt(p *pair) *model {
	m := *p.m
	m.redo = make([]deed, 200)
	return &m
}
