package pattern

import "copyist/api"

const (
	mostTimes = 255
	lastAtom  = 0x10FFFF
)

// reader reads the form of a pattern from the left. What stands ahead of its place could be the beginning of a pattern; where that can't go on it gives up.
type reader struct {
	src    []int
	at     int
	open   int // brackets that are yet to be closed
	groups int // that have been begun
}

// giveUp ends the reading: what is at the place can't stand there, or is missing.
func (r *reader) giveUp() { panic(api.ErrPattern) }

// look tells the int at the place; there must be one.
func (r *reader) look() int {
	if r.at == len(r.src) {
		r.giveUp()
	}
	return r.src[r.at]
}

// take goes on behind the int at the place.
func (r *reader) take() int {
	c := r.look()
	r.at++
	return c
}

// is tells whether these ints come next.
func (r *reader) is(signs ...int) bool {
	if len(r.src)-r.at < len(signs) {
		return false
	}
	for i, sign := range signs {
		if r.src[r.at+i] != sign {
			return false
		}
	}
	return true
}

// skip goes on behind these ints, if they come next.
func (r *reader) skip(signs ...int) bool {
	if !r.is(signs...) {
		return false
	}
	r.at += len(signs)
	return true
}

func (r *reader) pattern() choice {
	rows := choice{r.row()}
	for r.skip('\\', '|') {
		rows = append(rows, r.row())
	}
	return rows
}

func (r *reader) row() row {
	var members row
	for r.at < len(r.src) && !r.is('\\', '|') && !r.isShut() {
		members = append(members, r.member())
	}
	return members
}

// isShut tells whether the innermost open bracket is closed here.
func (r *reader) isShut() bool { return r.open > 0 && r.is('\\', ')') }

func (r *reader) member() node {
	switch {
	case r.skip('^'):
		return lineBegin
	case r.skip('$'):
		return lineEnd
	case r.skip('\\', '<'):
		return wordBegin
	case r.skip('\\', '>'):
		return wordEnd
	}
	return r.times(r.thing())
}

func (r *reader) thing() node {
	switch {
	case r.is('*'):
		r.giveUp()
	case r.skip('.'):
		return setOf().turn()
	case r.skip('['):
		return r.brackets()
	case r.skip('\\'):
		return r.escaped()
	}
	return only(r.take())
}

// escaped reads the thing whose backslash has been read.
func (r *reader) escaped() node {
	switch c := r.look(); c {
	case '(':
		return r.group()
	case '%':
		r.at++
		return r.percent()
	case 'D', 'S', 'W':
		r.at++
		return class(c - 'A' + 'a').turn()
	case 'd', 's', 'w', 'l', 'u':
		r.at++
		return class(c)
	case 't', 'e', 'x':
		return only(r.sign())
	case ')', '|', '+', '?', '{', '<', '>':
		r.giveUp()
	}
	if isLetter(r.look()) || isDigit(r.look()) {
		r.giveUp()
	}
	return only(r.take())
}

func (r *reader) group() node {
	if r.groups == mostGroups {
		r.giveUp()
	}
	r.groups++
	number := r.groups
	r.at++
	return &group{number, r.inner()}
}

// inner reads the pattern between two brackets, the first of which has been read.
func (r *reader) inner() node {
	r.open++
	inner := r.pattern()
	if !r.skip('\\', ')') {
		r.giveUp()
	}
	r.open--
	return inner
}

// percent reads the thing whose backslash and percent have been read.
func (r *reader) percent() node {
	switch {
	case r.skip('('):
		return r.inner()
	case r.skip('u'):
		return only(r.hex(4))
	case r.skip('U'):
		return only(r.hex(6))
	}
	r.giveUp()
	return nil
}

// hex reads so many hexadecimal digits of a number up to the last atom's.
func (r *reader) hex(digits int) int {
	number := 0
	for left := digits - 1; left >= 0; left-- {
		digit, ok := hexDigit(r.look())
		number = number*16 + digit
		if !ok || number<<(4*left) > lastAtom {
			r.giveUp()
		}
		r.at++
	}
	return number
}

// times reads the times behind a thing, if there is one.
func (r *reader) times(thing node) node {
	switch {
	case r.skip('*'):
		return &times{thing, 0, endless, false}
	case r.skip('\\', '+'):
		return &times{thing, 1, endless, false}
	case r.skip('\\', '?'):
		return &times{thing, 0, 1, false}
	case r.skip('\\', '{'):
		return r.braces(thing)
	}
	return thing
}

// braces reads a times whose opening brace has been read.
func (r *reader) braces(thing node) node {
	few := r.skip('-')
	least, written := r.number()
	most := endless
	if written {
		most = least
	}
	if r.skip(',') {
		if most, written = r.number(); !written {
			most = endless
		}
	}
	// Least above most is refused at the brace: with digits yet to come it could have been well.
	if !r.is('}') || least > most {
		r.giveUp()
	}
	r.at++
	return &times{thing, least, most, few}
}

// number reads digits, if there are any.
func (r *reader) number() (int, bool) {
	begin, number := r.at, 0
	for r.at < len(r.src) && isDigit(r.src[r.at]) {
		if number = number*10 + r.src[r.at] - '0'; number > mostTimes {
			r.giveUp()
		}
		r.at++
	}
	return number, r.at > begin
}
