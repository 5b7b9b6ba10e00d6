package register

import (
	"slices"

	"copyist/api"
)

const (
	lf = 10
	cr = 13
)

func isBreak(atom int) bool { return atom == lf || atom == cr }

// isNothing: a text by lines is never nothing, for without atoms it is an empty line.
func isNothing(r api.Reg) bool { return r.Kind == api.ByChars && len(r.Text) == 0 }

// take writes r where it was told, and lets the unnamed register point there.
func (b *Bank) take(name int, r api.Reg) api.Errno {
	if name == hole || isNothing(r) {
		return api.OK
	}
	err := b.write(name, r)
	if err == api.OK {
		b.points = small(name)
	}
	return err
}

// takeIntoRing moves the ring on only when r is sure to be taken: with an error nothing has changed.
func (b *Bank) takeIntoRing(r api.Reg) api.Errno {
	w, err := b.written(newest, r)
	if err != api.OK {
		return err
	}
	for to := int(oldest); to > newest; to-- {
		b.move(to-1, to)
	}
	b.held[newest] = w
	b.points = newest
	return api.OK
}

// move hands on what a register holds; an empty one empties the other.
func (b *Bank) move(from, to int) {
	if r, ok := b.held[from]; ok {
		b.held[to] = r
	} else {
		delete(b.held, to)
	}
}

// write leaves the unnamed register alone: only what is taken turns it.
func (b *Bank) write(name int, r api.Reg) api.Errno {
	w, err := b.written(name, r)
	if err == api.OK {
		b.held[small(name)] = w
	}
	return err
}

// written is what the register would hold with r in it, in memory of its own.
func (b *Bank) written(name int, r api.Reg) (holding, api.Errno) {
	if len(r.Text) > api.MaxReg { // ahead of copying: it may be far longer
		return holding{}, api.ErrLong
	}
	w := closed(r)
	h := holding{kind: w.Kind}.with(w.Text)
	if own, ok := b.held[small(name)]; ok && isGreat(name) {
		h = appended(own, w)
	}
	if h.size > api.MaxReg {
		return holding{}, api.ErrLong
	}
	return h, api.OK
}

// closed is a copy of r, in which, by lines, the last line has its break too.
func closed(r api.Reg) api.Reg {
	var end []int
	if n := len(r.Text); r.Kind == api.ByLines && (n == 0 || !isBreak(r.Text[n-1])) {
		end = []int{lf}
	}
	return api.Reg{Kind: r.Kind, Text: slices.Concat(r.Text, end)}
}

// appended is own with w behind it. Where lines meet characters, these become lines, by a break such as the lines have.
func appended(own holding, w api.Reg) holding {
	switch {
	case own.kind == w.Kind:
		return own.with(w.Text)
	case w.Kind == api.ByLines:
		own.kind = api.ByLines
		return own.with(lastBreak(w.Text)).with(w.Text)
	}
	return own.with(w.Text).with(lastBreak(own.last.atoms(min(own.size, 2))))
}

// lastBreak is the break at the end of a text by lines.
func lastBreak(text []int) []int {
	n := len(text)
	if n > 1 && text[n-2] == cr && text[n-1] == lf {
		return text[n-2:]
	}
	return text[n-1:]
}
