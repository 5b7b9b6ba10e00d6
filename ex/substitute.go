package ex

import (
	"slices"

	"copyist/api"
	"copyist/breaks"
	"copyist/codec"
	"copyist/pattern"
)

const lineFeed = 10

// substitutes puts something in the place of what a pattern finds.
type substitutes struct{}

func (substitutes) verb() int { return api.XSub }

func (substitutes) tail() []part { return []part{between{}, replacement{}, flags{}} }

func (substitutes) do(j *job, x api.Ex, s stretch) api.Errno {
	return j.substitute(api.Sub{Pat: x.Pat, Rep: x.Rep, Flags: x.Flags}, s)
}

// repeats does the last substitution again.
type repeats struct{}

func (repeats) verb() int { return api.XSubAgain }

func (repeats) tail() []part { return []part{gap{}, flags{}} }

func (repeats) do(j *job, x api.Ex, s stretch) api.Errno {
	if len(j.again.Pat) == 0 {
		return api.ErrEmpty
	}
	return j.substitute(api.Sub{Pat: j.again.Pat, Rep: j.again.Rep, Flags: x.Flags}, s)
}

func (j *job) substitute(sub api.Sub, s stretch) api.Errno {
	p, err := j.pattern(sub.Pat, j.Set.IgnoreCase || sub.Flags&api.SubIgnore != 0)
	if err != api.OK {
		return err
	}
	edits, err := j.swaps(p, sub, s)
	if err != api.OK {
		return err
	}
	if sub.Flags&api.SubCount != 0 {
		j.At = j.clamped(j.At)
	} else if err := j.changeTo(lastPlace(edits), edits...); err != api.OK {
		return err
	}
	j.again = api.Sub{Pat: j.sought, Rep: sub.Rep, Flags: sub.Flags}
	j.subbed = true
	return api.OK
}

// swaps tells an edit for each match in some lines.
func (j *job) swaps(p *pattern.Pattern, sub api.Sub, s stretch) ([]api.Edit, api.Errno) {
	span := j.span(s)
	var edits []api.Edit
	size := 0 // of all that is put
	for row := range breaks.Rows(j.text, span.From, span.To) {
		for _, match := range matches(p, row.Content, sub.Flags&api.SubAll != 0) {
			put, err := pattern.Fill(sub.Rep, row.Content, match)
			if err != api.OK {
				return nil, err
			}
			put = j.withBreaks(put)
			if size > api.MaxBytes {
				put = j.unfit(put)
			}
			size += len(put)
			edits = append(edits, api.Edit{From: row.From + match[0], To: row.From + match[1], Put: put})
		}
	}
	if len(edits) == 0 {
		return nil, api.ErrMatch
	}
	return edits, api.OK
}

// matches tells all matches of a line, or the first one.
func matches(p *pattern.Pattern, content []int, all bool) [][20]int {
	if all {
		return p.All(content)
	}
	if match, ok := p.Match(content, 0); ok {
		return [][20]int{match}
	}
	return nil
}

// withBreaks is a text in which line ends are those of the settings.
func (j *job) withBreaks(text []int) []int {
	if !slices.Contains(text, lineFeed) {
		return text
	}
	var out []int
	for _, atom := range text {
		if atom == lineFeed {
			out = append(out, j.nativeBreak()...)
		} else {
			out = append(out, atom)
		}
	}
	return out
}

// unfit is what the text can't hold of some atoms. Where more is put already than any text may have, the rest is of no use but for this: that is refused ahead of what is too long.
func (j *job) unfit(text []int) []int {
	return slices.DeleteFunc(text, func(atom int) bool { return codec.Fits(j.text.Enc(), atom) })
}

// lastPlace tells where the last of some edits is to be found behind the change.
func lastPlace(edits []api.Edit) int {
	upto := len(edits) - 1
	at := edits[upto].From
	for _, e := range edits[:upto] {
		at += len(e.Put) - (e.To - e.From)
	}
	return at
}
