package keys

import "copyist/api"

const quote = '"' // ahead of a register's name

// reading is what the pending keys have told so far. It is kept from key to key: there may be many of them.
type reading struct {
	keys     int // how many of them have been read for good: prefixes, an operator, digits behind it
	reg      int
	count    int // the product of the numbers that are over; 0: there was none
	number   int // the one that may go on; 0: there is none
	operator int // its verb; 0: none has come
}

// readOn reads the pending keys from where the last reading has stopped.
func (p *Parser) readOn() (api.Cmd, int) {
	told := &p.told
prefixes:
	for told.keys < len(p.pending) {
		left := p.pending[told.keys:]
		switch key := left[0]; {
		case told.goesOnWith(key):
			told.addDigit(key)
			continue prefixes
		case key == quote && told.operator == 0:
			if len(left) == 1 {
				break prefixes
			}
			if left[1] == 0 {
				return api.Cmd{}, api.KeyBad
			}
			told.addRegister(left[1])
			continue prefixes
		}
		b, behind, say := begun(p.bindings(), left)
		switch {
		case say == api.KeyBad:
			return api.Cmd{}, api.KeyBad
		case say == api.KeyMore, b.then == argument && len(behind) == 0:
			break prefixes
		case b.then == target:
			told.addOperator(b.verb, len(left)-len(behind))
			continue prefixes
		}
		return told.command(b, behind)
	}
	return api.Cmd{}, api.KeyMore
}

// bindings are those of the place that the reading has come to.
func (p *Parser) bindings() *Trie[binding] {
	switch {
	case p.told.operator != 0:
		return filled(&p.targets, targetRows)
	case p.selected:
		return filled(&p.selection, selectionRows)
	}
	return filled(&p.normal, normalRows)
}

// filled puts the rows into a trie that is empty yet: many a parser never comes to a selection or to an operator.
func filled(t *Trie[binding], rows func() []row) *Trie[binding] {
	if _, say := t.Look(); say == api.KeyBad {
		for _, r := range rows() {
			t.Put(r.binding, r.keys...)
		}
	}
	return t
}

// begun tells what the row is bound to that the keys begin with, the keys behind it, and KeyDone; else KeyMore or KeyBad.
func begun(t *Trie[binding], keys []int) (binding, []int, int) {
	for n := range keys {
		if b, say := t.Look(keys[:n+1]...); say != api.KeyMore {
			return b, keys[n+1:], say
		}
	}
	return binding{}, nil, api.KeyMore
}

// goesOnWith tells whether a key is a digit of a number: a 0 can't be its first.
func (r *reading) goesOnWith(key int) bool {
	return '1' <= key && key <= '9' || key == '0' && r.number > 0
}

func (r *reading) addDigit(key int) {
	r.number = min(r.number*10+key-'0', api.MaxCount)
	r.keys++
}

func (r *reading) addRegister(name int) {
	r.endNumber()
	r.reg = name
	r.keys += 2
}

func (r *reading) addOperator(verb, keys int) {
	r.endNumber()
	r.operator = verb
	r.keys += keys
}

func (r *reading) endNumber() {
	if r.number > 0 {
		r.count = min(max(r.count, 1)*r.number, api.MaxCount)
	}
	r.number = 0
}

// command is what all keys spell, with a last row and its argument, if it has one.
func (r *reading) command(b binding, behind []int) (api.Cmd, int) {
	r.endNumber()
	if r.operator != 0 {
		own, ok := b.behind(r.operator)
		if !ok {
			return api.Cmd{}, api.KeyBad
		}
		b = own
	}
	arg := 0
	if b.then == argument {
		arg = behind[0]
	}
	return b.command(r.reg, r.count, arg), api.KeyDone
}
