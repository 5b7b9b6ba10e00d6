package glyph

// The tables stand in constant texts. A row of them is written
//
//	00300-0036F:4
//
// with a blank behind it: a range of scalars, both ends in it, and the value
// that they have, all of it in hexadecimal digits. The rows are of one length,
// so that any row can be read without those ahead of it.
const (
	rowLength  = 14
	fromEnd    = 5
	toBegin    = 6
	toEnd      = 11
	valueBegin = 12
	valueEnd   = 13
)

type row struct {
	from, to, value int
}

func (r row) holds(atom int) bool {
	return r.from <= atom && atom <= r.to
}

// find tells the row that holds an atom. The rows do not overlap, so none but
// the last one that does not begin behind the atom can hold it.
func find(rows string, atom int) (row, bool) {
	low, high := 0, len(rows)/rowLength
	for low < high {
		middle := (low + high) / 2
		if beginning(rowText(rows, middle)) <= atom {
			low = middle + 1
		} else {
			high = middle
		}
	}
	if low == 0 {
		return row{}, false
	}
	if last := readRow(rowText(rows, low-1)); last.holds(atom) {
		return last, true
	}
	return row{}, false
}

func rowText(rows string, place int) string {
	return rows[place*rowLength : (place+1)*rowLength]
}

func readRow(text string) row {
	return row{beginning(text), number(text[toBegin:toEnd]), number(text[valueBegin:valueEnd])}
}

func beginning(text string) int {
	return number(text[:fromEnd])
}

func number(text string) int {
	sum := 0
	for _, letter := range text {
		sum = sum*16 + digit(letter)
	}
	return sum
}

func digit(letter rune) int {
	if letter >= 'A' {
		return int(letter-'A') + 10
	}
	return int(letter - '0')
}
