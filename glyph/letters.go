package glyph

// Every distance from a great letter to its small letter. The texts of the
// great and the small letters name a distance by its place here.
var distances = [...]int{1, -0x79, 0x8, 0xF, 0x10, 0x1A, 0x20, 0x25, 0x26, 0x28, 0x30, 0x3F, 0x40, 0x50}

// byTurns is the place of the distance of the rows in which great and small
// letters take turns: there only every second scalar has it.
const byTurns = 0

// The letters whose other case does not lead back to them, sorted.
var oneWay = [...]struct {
	atom, turned int
	great        bool
}{
	{0xB5, 0x39C, false},
	{0x130, 0x69, true},
	{0x131, 0x49, false},
	{0x17F, 0x53, false},
	{0x3C2, 0x3A3, false},
	{0x1E9E, 0xDF, true},
	{0x2126, 0x3C9, true},
	{0x212A, 0x6B, true},
	{0x212B, 0xE5, true},
}

// Upper tells the great letter of an atom, or the atom.
func Upper(atom int) int {
	if turned, ok := turnOneWay(atom, false); ok {
		return turned
	}
	return atom - distanceIn(smallRows, atom, 1)
}

// Lower tells the small letter of an atom, or the atom.
func Lower(atom int) int {
	if turned, ok := turnOneWay(atom, true); ok {
		return turned
	}
	return atom + distanceIn(greatRows, atom, 0)
}

// Turn tells an atom with its case turned.
func Turn(atom int) int {
	if upper := Upper(atom); upper != atom {
		return upper
	}
	return Lower(atom)
}

// turnOneWay tells the other case of a letter that turns one way alone, if it
// is one of the great ones, or of the small ones, that do.
func turnOneWay(atom int, great bool) (int, bool) {
	low, high := 0, len(oneWay)
	for low < high {
		middle := (low + high) / 2
		if oneWay[middle].atom < atom {
			low = middle + 1
		} else {
			high = middle
		}
	}
	if low == len(oneWay) || oneWay[low].atom != atom || oneWay[low].great != great {
		return 0, false
	}
	return oneWay[low].turned, true
}

// distanceIn tells the distance of a letter of these rows, 0 of every other
// int. The turn says which scalars of the rows by turns are such letters: 0
// for the great ones, with which those rows begin, 1 for the small ones.
func distanceIn(rows string, atom, turn int) int {
	r, ok := find(rows, atom)
	if !ok || r.value == byTurns && (atom-r.from)%2 != turn {
		return 0
	}
	return distances[r.value]
}
