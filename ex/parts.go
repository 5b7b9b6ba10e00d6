package ex

import (
	"slices"

	"copyist/api"
)

// part is what may follow a command's name: how it is read, and how it is told.
type part interface {
	read(r *reader, x *api.Ex)
	tell(p *printer, x api.Ex)
}

// force is a ! right behind the name.
type force struct{}

func (force) read(r *reader, x *api.Ex) { x.Force = r.skip('!') }

func (force) tell(p *printer, x api.Ex) {
	if x.Force {
		p.put('!')
	}
}

// other is a ! that makes another command of it. Print has a name for that one.
type other struct{ verb int }

func (o other) read(r *reader, x *api.Ex) {
	if r.skip('!') {
		x.Verb = o.verb
	}
}

func (other) tell(*printer, api.Ex) {}

// repeated is a sign that may stand there more than once.
type repeated struct{ sign int }

func (repeated) read(r *reader, x *api.Ex) { x.Count = r.at - r.named }

func (s repeated) tell(p *printer, x api.Ex) {
	for i := 1; i < min(x.Count, api.MaxLine); i++ { // the name is the first one
		p.put(s.sign)
	}
}

// registerName is a register's name, of those that may stand there.
type registerName struct{ may func(int) bool }

func (s registerName) read(r *reader, x *api.Ex) {
	r.blanks()
	x.Reg, _ = r.skipIf(s.may)
}

func (registerName) tell(p *printer, x api.Ex) {
	if x.Reg != 0 {
		p.put(blank, x.Reg)
	}
}

// markName is a mark's name. It is told as a register's is.
type markName struct{ registerName }

func (markName) read(r *reader, x *api.Ex) {
	r.blanks()
	x.Reg = r.need(isNamed)
}

// count is a number of lines.
type count struct{}

func (count) read(r *reader, x *api.Ex) {
	r.blanks()
	from := r.at
	x.Count, _ = r.number()
	if x.Count == 0 {
		r.at = from // a 0 is no count: it is refused where it stands
	}
}

func (count) tell(p *printer, x api.Ex) {
	if x.Count != 0 {
		p.put(blank)
		p.number(x.Count)
	}
}

// target is the address of a line that others go to.
type target struct{}

func (target) read(r *reader, x *api.Ex) {
	r.blanks()
	a, ok := r.address()
	if !ok {
		r.refuse()
	}
	x.Dest = a
}

func (target) tell(p *printer, x api.Ex) {
	p.put(blank)
	p.address(x.Dest)
}

// between is a pattern between two signs.
type between struct{}

func (between) read(r *reader, x *api.Ex) {
	r.sign = r.need(isSign)
	x.Pat = r.upToSign(r.sign)
}

func (between) tell(p *printer, x api.Ex) {
	p.put(p.sign)
	p.upToSign(p.sign, x.Pat)
}

// replacement stands behind the pattern, up to the next sign.
type replacement struct{}

func (replacement) read(r *reader, x *api.Ex) { x.Rep = r.upToSign(r.sign) }

func (replacement) tell(p *printer, x api.Ex) { p.upToSign(p.sign, x.Rep) }

// flags are letters, each at most once.
type flags struct{}

func (flags) read(r *reader, x *api.Ex) {
	isNew := func(atom int) bool { return flagOf(atom) != 0 && x.Flags&flagOf(atom) == 0 }
	for letter, ok := r.skipIf(isNew); ok; letter, ok = r.skipIf(isNew) {
		x.Flags |= flagOf(letter)
	}
}

func (flags) tell(p *printer, x api.Ex) {
	for _, letter := range []int{'g', 'i', 'n'} {
		if x.Flags&flagOf(letter) != 0 {
			p.put(letter)
		}
	}
}

func flagOf(letter int) int {
	switch letter {
	case 'g':
		return api.SubAll
	case 'i':
		return api.SubIgnore
	case 'n':
		return api.SubCount
	}
	return 0
}

// gap is blanks that need not be there.
type gap struct{}

func (gap) read(r *reader, _ *api.Ex) { r.blanks() }

func (gap) tell(*printer, api.Ex) {}

// inner is a command line, as it stands, for each line that is found.
type inner struct{}

func (inner) read(r *reader, x *api.Ex) { x.Arg = r.rest() }

func (inner) tell(p *printer, x api.Ex) { p.put(x.Arg...) }

// words are all that is left, without the blanks around it.
type words struct{}

func (words) read(r *reader, x *api.Ex) {
	r.blanks()
	all := r.rest()
	for len(all) > 0 && isBlank(all[len(all)-1]) {
		all = all[:len(all)-1]
	}
	x.Arg = all
}

func (words) tell(p *printer, x api.Ex) {
	if len(x.Arg) > 0 {
		p.put(blank)
		p.put(x.Arg...)
	}
}

// file is a file's name. It is told as words are.
type file struct{ words }

func (file) read(r *reader, x *api.Ex) {
	r.blanks()
	x.Arg = slices.Clone(r.row(isOfFile))
}
