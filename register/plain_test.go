package register_test

import (
	"slices"
	"strings"

	"copyist/api"
)

// slot is a register of the plain reading: its text is written in letters, n and r the breaks.
type slot struct {
	full bool
	kind int
	text string
}

// plain is the chapter read a second time: a row of slots, one for each number below 128, of which those of the great
// letters are never used, and the number of the slot that the unnamed register points to (-1: to nothing).
type plain struct {
	slots  [128]slot
	points int
	limit  int
}

func newPlain() *plain { return &plain{points: -1, limit: api.MaxReg} }

// what kind of name a number is, by the table: l a small letter, g a great one, d a digit, - . _ " and ? for none.
func sort(name int) string {
	if name == 0 {
		return `"`
	}
	if name < 0 || name > 127 {
		return "?"
	}
	rows := []struct{ names, kind string }{
		{"abcdefghijklmnopqrstuvwxyz", "l"},
		{"ABCDEFGHIJKLMNOPQRSTUVWXYZ", "g"},
		{"0123456789", "d"},
		{"-", "-"},
		{"_", "_"},
		{".:/", "."},
		{`"`, `"`},
	}
	for _, row := range rows {
		if strings.Contains(row.names, string(rune(name))) {
			return row.kind
		}
	}
	return "?"
}

// writtenOf is P1102's w.
func writtenOf(kind int, text string) string {
	if kind == api.ByLines && !strings.HasSuffix(text, "n") && !strings.HasSuffix(text, "r") {
		return text + "n"
	}
	return text
}

func breakOf(text string) string {
	if strings.HasSuffix(text, "rn") {
		return "rn"
	}
	return text[len(text)-1:]
}

// wouldHold is what a register holds behind the writing of w.
func (p *plain) wouldHold(name, kind int, w string) (int, slot) {
	if sort(name) != "g" {
		return name, slot{true, kind, w}
	}
	at := name + 32
	old := p.slots[at]
	if !old.full {
		return at, slot{true, kind, w}
	}
	if old.kind == api.ByChars && kind == api.ByChars {
		return at, slot{true, api.ByChars, old.text + w}
	}
	if old.kind == api.ByLines && kind == api.ByLines {
		return at, slot{true, api.ByLines, old.text + w}
	}
	if kind == api.ByLines {
		return at, slot{true, api.ByLines, old.text + breakOf(w) + w}
	}
	return at, slot{true, api.ByLines, old.text + w + breakOf(old.text)}
}

func (p *plain) yank(name, kind int, text string) api.Errno {
	switch what := sort(name); {
	case what == "?":
		return api.ErrReg
	case what == ".":
		return api.ErrRead
	case kind != api.ByChars && kind != api.ByLines:
		return api.ErrArg
	case what == "_":
		return api.OK
	case what == `"`:
		name = '0'
	}
	at, s := p.wouldHold(name, kind, writtenOf(kind, text))
	if len(s.text) > p.limit {
		return api.ErrLong
	}
	if kind == api.ByChars && text == "" {
		return api.OK
	}
	p.slots[at] = s
	p.points = at
	return api.OK
}

func (p *plain) delete(name, kind int, text string) api.Errno {
	if sort(name) != `"` {
		return p.yank(name, kind, text)
	}
	if kind != api.ByChars && kind != api.ByLines {
		return api.ErrArg
	}
	w := writtenOf(kind, text)
	if len(w) > p.limit {
		return api.ErrLong
	}
	if kind == api.ByChars && text == "" {
		return api.OK
	}
	if kind == api.ByChars && !strings.Contains(text, "n") && !strings.Contains(text, "r") {
		p.slots['-'] = slot{true, kind, text}
		p.points = '-'
		return api.OK
	}
	ring := [9]slot(p.slots['1' : '9'+1])
	copy(p.slots['2':'9'+1], ring[:8])
	p.slots['1'] = slot{true, kind, w}
	p.points = '1'
	return api.OK
}

func (p *plain) get(name int) (api.Reg, api.Errno) {
	what := sort(name)
	if what == "?" {
		return api.Reg{}, api.ErrReg
	}
	if what == "g" {
		name += 32
	}
	if what == `"` {
		if name = p.points; name < 0 {
			return api.Reg{}, api.ErrEmpty
		}
	}
	s := p.slots[name]
	if what == "_" || !s.full {
		return api.Reg{}, api.ErrEmpty
	}
	return api.Reg{Kind: s.kind, Text: spell(s.text)}, api.OK
}

func (p *plain) set(name int, text string) api.Errno {
	what := sort(name)
	if what == "?" || what == `"` {
		return api.ErrReg
	}
	if what == "_" {
		return api.OK
	}
	if text == "" {
		if what != "g" {
			p.slots[name] = slot{}
		}
		return api.OK
	}
	at, s := p.wouldHold(name, api.ByChars, text)
	if len(s.text) > p.limit {
		return api.ErrLong
	}
	p.slots[at] = s
	return api.OK
}

func (p *plain) names() []int {
	var names []int
	for i, s := range p.slots {
		if s.full {
			names = append(names, i)
		}
	}
	slices.Sort(names)
	return names
}
