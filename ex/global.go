package ex

import (
	"slices"

	"copyist/api"
	"copyist/breaks"
	"copyist/glyph"
	"copyist/lines"
	"copyist/pattern"
)

// global does a command line on each line in which a pattern is found, or is not found.
type global struct{ kind }

func (g global) tail() []part {
	if g.kind == api.XGlobalNot {
		return []part{between{}, inner{}}
	}
	return []part{other{api.XGlobalNot}, between{}, inner{}}
}

func (g global) do(j *job, x api.Ex, s stretch) api.Errno {
	p, err := j.pattern(x.Pat, j.Set.IgnoreCase)
	if err != api.OK {
		return err
	}
	each, _, err := Parse(x.Arg)
	if err != api.OK {
		return err
	}
	e, _ := entryOf(each.Verb)
	if !mayNest(e.command) {
		return api.ErrNested
	}
	found := j.found(p, s, g.kind == api.XGlobal)
	if len(found) == 0 {
		return api.ErrMatch
	}
	j.waiting = newWaiting(found)
	if err := j.each(e.command, each); err != api.OK {
		return err
	}
	j.Book.Watch(nil)
	j.At = j.clamped(j.At)
	return api.OK
}

// found tells where the lines begin in which a pattern is found; or those in which it is not.
func (j *job) found(p *pattern.Pattern, s stretch, with bool) []int {
	span := j.span(s)
	var froms []int
	for row := range breaks.Rows(j.text, span.From, span.To) {
		if _, ok := p.Match(row.Content, 0); ok == with {
			froms = append(froms, row.From)
		}
	}
	return froms
}

// each does a command at every place that waits.
func (j *job) each(c command, x api.Ex) api.Errno {
	for at, ok := j.waiting.next(); ok; at, ok = j.waiting.next() {
		if j.isInside(at) {
			continue
		}
		j.At = at
		if err := j.attempt(c, x); err != api.OK {
			return err
		}
	}
	return api.OK
}

// attempt does a command; where it finds nothing to do, it is as if it had not been asked for.
func (j *job) attempt(c command, x api.Ex) api.Errno {
	at, sought := j.At, j.sought
	_, err := j.do(c, x)
	if isMild(c, err) {
		j.At, j.sought = at, sought
		return api.OK
	}
	return err
}

// window is how many atoms of a line are read at first, to see whether one of them is no blank. Each further window is twice as long.
const window = 64

// isInside tells whether a line that once began at an offset has become a part of another one, with more than blanks ahead of it.
func (j *job) isInside(at int) bool {
	size := window
	for from := j.line(lines.Of(j.text, at)).From; from < at; from += size / 2 {
		if slices.ContainsFunc(j.text.Atoms(from, min(from+size, at)), isSeen) {
			return true
		}
		size *= 2
	}
	return false
}

// isSeen asks the tables only for what is no common blank: a line may be long.
func isSeen(atom int) bool { return !isBlank(atom) && glyph.Word(atom) != glyph.Blank }
