package ex

import (
	"slices"
	"strconv"

	"copyist/api"
)

// printer writes a command line, but no more of it than tells that it is too long.
type printer struct {
	out  []int
	sign int // what a pattern and a replacement stand between
}

func (p *printer) put(atoms ...int) {
	room := api.MaxLine + 1 - len(p.out)
	p.out = append(p.out, atoms[:min(len(atoms), room)]...)
}

func (p *printer) text(s string) {
	for _, sign := range s {
		p.put(int(sign))
	}
}

func (p *printer) number(n int) { p.text(strconv.Itoa(n)) }

// upToSign writes a text and the sign that ends it.
func (p *printer) upToSign(sign int, text []int) {
	for _, atom := range text[:min(len(text), api.MaxLine+1)] {
		if atom == sign {
			p.put(backslash)
		}
		p.put(atom)
	}
	p.put(sign)
}

func (p *printer) address(a api.Addr) {
	switch a.Kind {
	case api.ANumber:
		p.number(a.N)
	case api.ADot:
		p.put('.')
	case api.ALast:
		p.put('$')
	case api.AMark:
		p.put('\'', a.N)
	case api.ASearch:
		p.put('/')
		p.upToSign('/', a.Pat)
	case api.ASearchBack:
		p.put('?')
		p.upToSign('?', a.Pat)
	}
	if a.Off > 0 {
		p.put('+')
	}
	if a.Off != 0 {
		p.number(a.Off)
	}
}

// printed is a line of the form that Print tells, whether it reads as x or not.
func printed(e entry, x api.Ex, sign int) []int {
	p := printer{sign: sign}
	for i, a := range x.Addrs[:min(len(x.Addrs), api.MaxLine)] {
		if i > 0 {
			p.put(',')
		}
		p.address(a)
	}
	p.text(e.first())
	for _, part := range e.tail() {
		part.tell(&p, x)
	}
	return p.out
}

func isSame(x, y api.Ex) bool {
	return slices.EqualFunc(x.Addrs, y.Addrs, isSameAddress) &&
		x.Verb == y.Verb && x.Force == y.Force && x.Reg == y.Reg && x.Count == y.Count &&
		isSameAddress(x.Dest, y.Dest) && slices.Equal(x.Pat, y.Pat) && slices.Equal(x.Rep, y.Rep) &&
		x.Flags == y.Flags && slices.Equal(x.Arg, y.Arg)
}

func isSameAddress(a, b api.Addr) bool {
	return a.Kind == b.Kind && a.N == b.N && slices.Equal(a.Pat, b.Pat) && a.Off == b.Off
}
