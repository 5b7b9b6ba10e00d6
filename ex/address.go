package ex

import "copyist/api"

// addresses reads none, one or two, and the blanks behind them.
func (r *reader) addresses() []api.Addr {
	if r.skip('%') {
		r.noComma()
		return []api.Addr{{Kind: api.ANumber, N: 1}, {Kind: api.ALast}}
	}
	first, ok := r.address()
	r.blanks()
	if r.skip(',') {
		r.blanks()
		second, _ := r.address()
		r.noComma()
		return []api.Addr{first, second}
	}
	if ok {
		return []api.Addr{first}
	}
	return nil
}

// noComma sees that no more addresses follow.
func (r *reader) noComma() {
	r.blanks()
	if r.skip(',') {
		r.at--
		r.refuse()
	}
}

// address reads one, and tells whether there is one; in the place of none the present line is meant.
func (r *reader) address() (api.Addr, bool) {
	a, based := r.base()
	off, moved := r.offsets()
	if !based {
		a.Kind = api.ADot
	}
	a.Off = off
	return a, based || moved
}

func (r *reader) base() (api.Addr, bool) {
	n, ok := r.number()
	switch {
	case ok:
		return api.Addr{Kind: api.ANumber, N: n}, true
	case r.skip('.'):
		return api.Addr{Kind: api.ADot}, true
	case r.skip('$'):
		return api.Addr{Kind: api.ALast}, true
	case r.skip('\''):
		return api.Addr{Kind: api.AMark, N: r.need(isAny)}, true
	case r.skip('/'):
		return api.Addr{Kind: api.ASearch, Pat: r.upToSign('/')}, true
	case r.skip('?'):
		return api.Addr{Kind: api.ASearchBack, Pat: r.upToSign('?')}, true
	}
	return api.Addr{}, false
}

// offsets reads what is added to a base, and tells whether there is anything.
func (r *reader) offsets() (sum int, moved bool) {
	for {
		way := 0
		switch {
		case r.skip('+'):
			way = 1
		case r.skip('-'):
			way = -1
		default:
			return min(max(sum, -most), most), moved
		}
		n, ok := r.number()
		if !ok {
			n = 1
		}
		sum += way * n
		moved = true
	}
}
