package ex

import (
	"copyist/api"
	"copyist/lines"
)

// lines tells what lines addresses mean.
func (j *job) lines(addrs []api.Addr) ([]int, api.Errno) {
	var found []int
	for _, a := range addrs {
		line, err := j.meant(a)
		if err != api.OK {
			return nil, err
		}
		found = append(found, line)
	}
	return found, api.OK
}

// meant tells what line an address means.
func (j *job) meant(a api.Addr) (int, api.Errno) {
	line, err := j.base(a)
	if err != api.OK {
		return 0, err
	}
	if isFar(a.Off) {
		return 0, api.ErrLine
	}
	line += a.Off
	if line < -1 || line > j.lastLine() {
		return 0, api.ErrLine
	}
	return line, api.OK
}

// isFar tells whether a number is none that a line could hold: no sums are made with such.
func isFar(n int) bool { return n > most || n < -most }

func (j *job) base(a api.Addr) (int, api.Errno) {
	switch a.Kind {
	case api.ANumber:
		if isFar(a.N) {
			return 0, api.ErrLine
		}
		return a.N - 1, api.OK
	case api.ADot:
		return j.here(), api.OK
	case api.ALast:
		return j.lastLine(), api.OK
	case api.AMark:
		at, err := j.Book.Mark(a.N)
		if err != api.OK {
			return 0, err
		}
		return min(lines.Of(j.text, at), j.lastLine()), api.OK
	case api.ASearch, api.ASearchBack:
		return j.search(a.Pat, a.Kind == api.ASearchBack)
	}
	return 0, api.ErrArg
}

// search tells the next line below the present one, or above it, in which a pattern is found.
func (j *job) search(src []int, back bool) (int, api.Errno) {
	p, err := j.pattern(src, j.Set.IgnoreCase)
	if err != api.OK {
		return 0, err
	}
	here := j.line(j.here())
	from := here.To
	if back {
		from = here.From
	}
	found, err := p.Search(j.text, from, back, !j.Set.NoWrap)
	if err != api.OK {
		return 0, err
	}
	return lines.Of(j.text, found.From), api.OK
}
