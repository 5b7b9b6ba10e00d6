package ex

import (
	"slices"

	"copyist/api"
	"copyist/breaks"
	"copyist/lines"
)

// puts puts a register's text as whole lines.
type puts struct{}

func (puts) verb() int { return api.XPut }

func (puts) tail() []part { return []part{force{}, registerName{isPuttable}} }

func (puts) do(j *job, x api.Ex, s stretch) api.Errno {
	r, err := j.Bank.Get(x.Reg)
	if err != api.OK {
		return err
	}
	if r.Kind == api.ByChars {
		r.Text = slices.Concat(r.Text, j.nativeBreak())
	}
	behind := s.last
	if x.Force {
		behind = max(behind-1, -1)
	}
	return j.bring(r.Text, behind)
}

// copies puts lines a second time.
type copies struct{}

func (copies) verb() int { return api.XCopy }

func (copies) tail() []part { return []part{target{}} }

func (copies) do(j *job, x api.Ex, s stretch) api.Errno {
	behind, err := j.meant(x.Dest)
	if err != api.OK {
		return err
	}
	return j.bring(j.closed(s), behind)
}

// moves takes lines to another place.
type moves struct{}

func (moves) verb() int { return api.XMove }

func (moves) tail() []part { return []part{target{}} }

func (moves) do(j *job, x api.Ex, s stretch) api.Errno {
	behind, err := j.meant(x.Dest)
	switch {
	case err != api.OK:
		return err
	case behind >= s.first && behind < s.last:
		return api.ErrInto
	case behind == s.first-1 || behind == s.last:
		j.At = j.firstSign(j.line(s.last).From)
		return api.OK
	}
	whole, err := lines.Whole(j.text, s.first, s.last)
	if err != api.OK {
		return err
	}
	gone := api.Edit{From: whole.From, To: whole.To}
	come, cursor := j.wholeLines(j.closed(s), behind)
	edits := []api.Edit{come, gone}
	if gone.From < come.From {
		edits = []api.Edit{gone, come}
		cursor -= gone.To - gone.From
	}
	return j.changeTo(cursor, edits...)
}

// closed is the atoms of some lines, the last of which has its break too.
func (j *job) closed(s stretch) []int {
	span := j.span(s)
	text := j.text.Atoms(span.From, span.To)
	if j.line(s.last).Break == api.NoBreak {
		return slices.Concat(text, j.nativeBreak())
	}
	return text
}

// bring puts whole lines behind a line.
func (j *job) bring(text []int, behind int) api.Errno {
	edit, cursor := j.wholeLines(text, behind)
	return j.changeTo(cursor, edit)
}

// changeTo does all edits, and leads to the first sign at an offset.
func (j *job) changeTo(cursor int, edits ...api.Edit) api.Errno {
	err := j.change(edits...)
	if err == api.OK {
		j.At = j.firstSign(cursor)
	}
	return err
}

// wholeLines tells the edit that puts whole lines behind a line, and where the last one of them begins then.
func (j *job) wholeLines(text []int, behind int) (api.Edit, int) {
	last := breaks.LastLine(text)
	if behind < 0 {
		return api.Edit{Put: text}, last
	}
	line := j.line(behind)
	at := line.Next
	var end []int
	if line.Break == api.NoBreak {
		text = breaks.Without(text)
		end = breaks.Typed(breaks.Native(j.Set.Native), j.text.Atoms(at-1, at), text)
	}
	return api.Edit{From: at, To: at, Put: slices.Concat(end, text)}, at + len(end) + last
}
