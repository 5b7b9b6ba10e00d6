package pattern

// brackets reads a single whose opening bracket has been read.
func (r *reader) brackets() node {
	all := setOf()
	if r.skip('^') {
		all.turn()
	}
	// The first one is read whatever it is: a ] there is a sign.
	all.join(r.item())
	for !r.is(']') {
		all.join(r.item())
	}
	r.at++
	all.tidy()
	return all
}

// item reads a sign, a stretch or a class.
func (r *reader) item() *set {
	if r.is('\\') && r.at+1 < len(r.src) && isClass(r.src[r.at+1]) {
		r.at++
		return class(r.take())
	}
	first := r.bracketSign()
	if !r.isStretch() {
		return only(first)
	}
	r.at++
	last := r.bracketSign()
	all, ok := stretch(first, last)
	if !ok {
		// It is refused at the last int of the second sign.
		r.at--
		r.giveUp()
	}
	return all
}

// isStretch tells whether a - that comes next makes a stretch with the sign that has been read.
func (r *reader) isStretch() bool {
	return r.is('-') && !r.is('-', ']')
}

func (r *reader) bracketSign() int {
	if !r.skip('\\') {
		return r.take()
	}
	switch r.look() {
	case '\\', ']', '^', '-':
		return r.take()
	}
	return r.sign()
}

// sign reads what is written by a letter, whose backslash has been read.
func (r *reader) sign() int {
	switch {
	case r.skip('t'):
		return tab
	case r.skip('e'):
		return escape
	case r.skip('x'):
		return raw(r.hex(2))
	}
	r.giveUp()
	return 0
}

func isClass(c int) bool {
	switch c {
	case 'd', 's', 'w', 'l', 'u':
		return true
	}
	return false
}

// class tells what the single with this letter takes.
func class(letter int) *set {
	switch letter {
	case 'd':
		return setOf(span{'0', '9'})
	case 's':
		return setOf(span{tab, tab}, span{' ', ' '})
	case 'w':
		return &set{kinds: word}
	case 'l':
		return &set{kinds: small}
	}
	return &set{kinds: great}
}
