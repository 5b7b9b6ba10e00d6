package pattern

import (
	"copyist/api"
	"copyist/glyph"
)

// Fill tells what stands in a match's place.
func Fill(rep []int, line []int, match [20]int) (given []int, err api.Errno) {
	if len(rep) > api.MaxPat {
		return nil, api.ErrLong
	}
	defer func() {
		if recover() != nil {
			given, err = nil, api.ErrFill
		}
	}()
	f := filler{reader{src: rep}, line, match}
	orders, size := f.orders()
	if size > api.MaxReg {
		return nil, api.ErrLong
	}
	return obeyed(orders, size), api.OK
}

// order gives some ints, or tells by a letter how those behind it are turned.
type order struct {
	gives  []int
	letter int
}

// filler reads a replacement as a pattern is read.
type filler struct {
	reader
	line  []int
	match [20]int
}

// orders reads the whole, and tells how many ints it gives: none is put ahead of the last one that could be wrong.
func (f *filler) orders() ([]order, int) {
	var all []order
	size := 0
	for f.at < len(f.src) {
		next := f.order()
		all = append(all, next)
		size += len(next.gives)
	}
	return all, size
}

func (f *filler) order() order {
	switch {
	case f.skip('&'):
		return f.taken(0)
	case f.skip('\\'):
		return f.backslash()
	}
	return give(f.take())
}

// backslash reads what stands behind one.
func (f *filler) backslash() order {
	switch c := f.look(); c {
	case 'n', 'r':
		f.at++
		return give(lineFeed)
	case 'u', 'l', 'U', 'L', 'E':
		f.at++
		return order{letter: c}
	default:
		if isLetter(c) {
			return give(f.sign())
		}
		if f.at++; isDigit(c) {
			return f.taken(c - '0')
		}
		return give(c)
	}
}

func give(atom int) order { return order{gives: []int{atom}} }

// taken gives what a group took; a match may be any ints.
func (f *filler) taken(number int) order {
	from, to := max(f.match[2*number], 0), min(f.match[2*number+1], len(f.line))
	if from >= to {
		return order{}
	}
	return order{gives: f.line[from:to]}
}

// obeyed gives what the orders give, turned as they tell.
func obeyed(orders []order, size int) []int {
	out := make([]int, 0, size)
	once, always := 0, 0
	for _, o := range orders {
		switch o.letter {
		case 'u', 'l':
			once = o.letter
		case 'U', 'L', 'E':
			always = o.letter
		}
		for _, atom := range o.gives {
			if once != 0 {
				out = append(out, turned(atom, once))
				once = 0
			} else {
				out = append(out, turned(atom, always))
			}
		}
	}
	return out
}

func turned(atom, letter int) int {
	switch letter {
	case 'u', 'U':
		return glyph.Upper(atom)
	case 'l', 'L':
		return glyph.Lower(atom)
	}
	return atom
}
