package ex

import (
	"copyist/api"
	"copyist/lines"
)

// goes leads to a line.
type goes struct{}

func (goes) verb() int { return api.XGoto }

func (goes) tail() []part { return nil }

func (goes) do(j *job, x api.Ex, s stretch) api.Errno {
	if len(x.Addrs) > 0 {
		j.At = j.firstSign(j.line(max(s.last, 0)).From)
	}
	return api.OK
}

// deletes takes lines away.
type deletes struct{}

func (deletes) verb() int { return api.XDelete }

func (deletes) tail() []part { return []part{registerName{isTakeable}, count{}} }

func (deletes) do(j *job, x api.Ex, s stretch) api.Errno {
	s = j.counted(s, x.Count)
	gone, err := lines.Whole(j.text, s.first, s.last)
	if err != api.OK {
		return err
	}
	return j.within(gone, func() api.Errno { return j.Delete(x.Reg, j.span(s)) })
}

// yanks copies lines.
type yanks struct{}

func (yanks) verb() int { return api.XYank }

func (yanks) tail() []part { return []part{registerName{isTakeable}, count{}} }

func (yanks) do(j *job, x api.Ex, s stretch) api.Errno {
	at := j.clamped(j.At)
	err := j.Yank(x.Reg, j.span(j.counted(s, x.Count)))
	j.At = at
	return err
}

// shifts moves lines to the right or to the left.
type shifts struct{ kind }

func (s shifts) tail() []part {
	if s.kind == api.XLeft {
		return []part{repeated{'<'}}
	}
	return []part{repeated{'>'}}
}

func (c shifts) do(j *job, x api.Ex, s stretch) api.Errno {
	steps := x.Count
	if c.kind == api.XLeft {
		steps = -steps
	}
	span := j.span(s)
	return j.within(span, func() api.Errno { return j.Shift(span, steps) })
}

// joins makes one line of several.
type joins struct{}

func (joins) verb() int { return api.XJoin }

func (joins) tail() []part { return []part{force{}, count{}} }

func (joins) do(j *job, x api.Ex, s stretch) api.Errno {
	switch {
	case x.Count > 0:
		s = j.counted(s, max(x.Count, 2))
	case len(x.Addrs) < 2:
		s = j.counted(s, 2)
	}
	if s.first == s.last {
		return api.ErrNothing // as the desk would say; but here nothing need be watched for it
	}
	return j.within(j.span(s), func() api.Errno { return j.Join(s.first, s.last, x.Force) })
}

// marks gives a line a mark.
type marks struct{}

func (marks) verb() int { return api.XMark }

func (marks) tail() []part { return []part{markName{}} }

func (marks) do(j *job, x api.Ex, s stretch) api.Errno {
	return j.Book.SetMark(x.Reg, j.line(s.last).From)
}

// travels goes back to what was, or on to what will be.
type travels struct{ kind }

func (travels) tail() []part { return nil }

func (c travels) do(j *job, _ api.Ex, _ stretch) api.Errno {
	travel := j.Book.Undo
	if c.kind == api.XRedo {
		travel = j.Book.Redo
	}
	at, err := travel()
	if err == api.OK {
		j.At = j.clamped(at)
	}
	return err
}

// wishes asks something of the session around the desk.
type wishes struct{ kind }

func (c wishes) tail() []part {
	switch c.kind {
	case api.XQuit:
		return []part{force{}}
	case api.XRead, api.XFile:
		return []part{file{}}
	}
	return []part{force{}, file{}}
}

func (c wishes) wish(x api.Ex, s stretch) api.Wish {
	w := api.Wish{Verb: x.Verb, Force: x.Force, Name: spelled(x.Arg)}
	if c.kind == api.XRead {
		w.Line = s.last + 1
	}
	return w
}
