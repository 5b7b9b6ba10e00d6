package ex

import (
	"slices"

	"copyist/api"
)

const (
	most      = 999999999 // a number in a line is no greater
	tab       = 9
	blank     = 32
	backslash = '\\'
)

// refusal is what a reader gives up with.
type refusal struct {
	place int
	err   api.Errno
}

// reader reads a command line from the left.
type reader struct {
	src   []int
	at    int
	wrong api.Errno // what it is, if the atom here can't stand here
	named int       // where the command's name begins
	sign  int       // what a pattern and a replacement end with
}

// refuse gives up at the present place.
func (r *reader) refuse() { panic(refusal{r.at, r.wrong}) }

func (r *reader) isEnd() bool { return r.at == len(r.src) }

// skipIf reads one atom, if it is of a kind.
func (r *reader) skipIf(is func(int) bool) (int, bool) {
	if r.isEnd() || !is(r.src[r.at]) {
		return 0, false
	}
	r.at++
	return r.src[r.at-1], true
}

// skip reads one atom, if it is this one.
func (r *reader) skip(sign int) bool {
	_, ok := r.skipIf(func(atom int) bool { return atom == sign })
	return ok
}

// need reads one atom, which must be of a kind.
func (r *reader) need(is func(int) bool) int {
	atom, ok := r.skipIf(is)
	if !ok {
		r.refuse()
	}
	return atom
}

// row reads atoms of a kind, as long as it goes.
func (r *reader) row(is func(int) bool) []int {
	from := r.at
	for !r.isEnd() && is(r.src[r.at]) {
		r.at++
	}
	return r.src[from:r.at]
}

// rest reads all that is left.
func (r *reader) rest() []int { return slices.Clone(r.row(isAny)) }

func (r *reader) blanks() { r.row(isBlank) }

// number reads a number, if one stands here.
func (r *reader) number() (int, bool) {
	digits := r.row(isDigit)
	n := 0
	for _, digit := range digits {
		n = min(10*n+digit-'0', most)
	}
	return n, len(digits) > 0
}

// line reads all of it.
func (r *reader) line() api.Ex {
	r.blanks()
	x := api.Ex{Addrs: r.addresses()}
	c := r.command()
	if len(x.Addrs) > 0 && !takesLines(c) {
		panic(refusal{r.named, api.ErrAddress})
	}
	x.Verb = c.verb()
	r.wrong = api.ErrTail
	for _, p := range c.tail() {
		p.read(r, &x)
	}
	r.blanks()
	if !r.isEnd() {
		r.refuse()
	}
	return x
}

// command reads a name.
func (r *reader) command() command {
	r.named = r.at
	if r.isEnd() {
		return goes{}
	}
	name := r.name()
	if c, ok := commands()[spelled(name)]; ok {
		return c
	}
	if len(name) == 2 && name[0] == 'k' {
		r.at-- // the mark's name is read behind the command's
		return marks{}
	}
	panic(refusal{r.named, api.ErrCommand})
}

// name reads what may be a name. However many signs it has, one leads to the command.
func (r *reader) name() []int {
	for _, sign := range []int{'>', '<'} {
		if r.skip(sign) {
			r.row(func(atom int) bool { return atom == sign })
			return []int{sign}
		}
	}
	if r.skip('&') {
		return []int{'&'}
	}
	return r.row(isSmall)
}

// upToSign reads a text up to the sign at which it began, or to the end.
func (r *reader) upToSign(sign int) []int {
	var text []int
	for !r.isEnd() && !r.skip(sign) {
		atom := r.need(isAny)
		if atom == backslash {
			atom = r.need(isAny)
			if atom != sign {
				text = append(text, backslash)
			}
		}
		text = append(text, atom)
	}
	return text
}
