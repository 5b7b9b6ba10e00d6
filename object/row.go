package object

import (
	"iter"

	"copyist/api"
	"copyist/glyph"
)

// part is a cluster or a line, or a stretch of them that have the same kind.
type part struct{ from, to, kind int }

func isBlank(p part) bool { return p.kind == glyph.Blank }

func isFull(p part) bool { return !isBlank(p) }

func isAny(part) bool { return true }

// row is what stands around an offset, part by part. Words are taken from the clusters of a line just as paragraphs are from the lines of a text.
type row struct {
	here part                          // the offset's own
	up   func(from int) iter.Seq[part] // the parts behind a place, the nearest first
	down func(to int) iter.Seq[part]   // those ahead of it, the nearest first
	span func(from, to int) (api.Span, api.Errno)
}

// inner takes the stretches from the first to the k-th.
func (r row) inner(k int) (api.Span, api.Errno) {
	to, ok := r.kthEnd(k, isAny)
	if !ok {
		return none()
	}
	return r.span(r.begin(), to)
}

// outer takes the stretches up to the k-th one that is not blank, and blank ones on one side of them.
func (r row) outer(k int) (api.Span, api.Errno) {
	to, ok := r.kthEnd(k, isFull)
	if !ok {
		return none()
	}
	from := r.begin()
	if isBlank(r.here) {
		return r.span(from, to)
	}
	return r.withBlanks(from, to)
}

// withBlanks takes the blanks right behind a span too; where there are none, those right ahead of it.
func (r row) withBlanks(from, to int) (api.Span, api.Errno) {
	if behind := reachUp(r.up(to), to, isBlank); behind > to {
		return r.span(from, behind)
	}
	return r.span(reachDown(r.down(from), from, isBlank), to)
}

// begin tells where the first stretch begins.
func (r row) begin() int {
	same := func(p part) bool { return p.kind == r.here.kind }
	return reachDown(r.down(r.here.from), r.here.from, same)
}

// kthEnd tells where the k-th of the stretches ends that count.
func (r row) kthEnd(k int, counts func(part) bool) (int, bool) {
	for s := range r.stretches() {
		if !counts(s) {
			continue
		}
		if k--; k == 0 {
			return s.to, true
		}
	}
	return 0, false
}

// stretches goes through the stretches from the first one on; of that one it tells what is left from the offset's part on.
func (r row) stretches() iter.Seq[part] {
	return func(yield func(part) bool) {
		s := r.here
		for p := range r.up(s.to) {
			if p.kind == s.kind {
				s.to = p.to
				continue
			}
			if !yield(s) {
				return
			}
			s = p
		}
		yield(s)
	}
}

// reachUp tells how far up from a place the parts belong to a thing.
func reachUp(parts iter.Seq[part], to int, belongs func(part) bool) int {
	for p := range parts {
		if !belongs(p) {
			break
		}
		to = p.to
	}
	return to
}

// reachDown tells the same downwards.
func reachDown(parts iter.Seq[part], from int, belongs func(part) bool) int {
	for p := range parts {
		if !belongs(p) {
			break
		}
		from = p.from
	}
	return from
}
