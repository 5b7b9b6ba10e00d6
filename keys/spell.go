package keys

import (
	"slices"
	"strconv"

	"copyist/api"
)

// Spell tells the keys of a command, as short as they can be; nil, if no keys spell it.
func Spell(mode int, c api.Cmd) []int {
	if c.Count < 0 || c.Count > api.MaxCount || c.Reg == api.KeyEscape {
		return nil
	}
	var best []int
	for _, r := range rowsOf(mode, c.Verb) {
		keys := r.spell(c)
		if keys != nil && (best == nil || isBefore(keys, best)) {
			best = keys
		}
	}
	return best
}

// isBefore tells whether keys are shorter than others, or as long and less.
func isBefore(keys, others []int) bool {
	if len(keys) != len(others) {
		return len(keys) < len(others)
	}
	return slices.Compare(keys, others) < 0
}

// rowsOf are all whole rows of a mode that are bound to a verb, an operator's together with its targets.
func rowsOf(mode, verb int) []row {
	first := normalRows
	if isSelection(mode) {
		first = selectionRows
	}
	var rows []row
	for _, r := range first() {
		if r.verb != verb {
			continue
		}
		if r.then == target {
			rows = append(rows, r.targets()...)
		} else {
			rows = append(rows, r)
		}
	}
	return rows
}

// targets are the rows of an operator with all that may stand behind it.
func (r row) targets() []row {
	var rows []row
	for _, t := range targetRows() {
		if b, ok := t.behind(r.verb); ok {
			rows = append(rows, row{b, slices.Concat(r.keys, t.keys)})
		}
	}
	return rows
}

// spell tells the shortest and least keys that spell a command by this row; nil, if none do.
func (r row) spell(c api.Cmd) []int {
	if r.command(c.Reg, c.Count, c.Arg) != c {
		return nil
	}
	keys := slices.Clone(r.keys)
	if r.then == argument {
		if c.Arg == api.KeyEscape {
			return nil
		}
		keys = append(keys, c.Arg)
	}
	return prefixed(keys, c.Reg, c.Count)
}

// prefixed puts a register and a count ahead of a row: the register first, for its quote is less than a digit, and both
// ahead of an operator, which is greater than a digit. The count is one number: several that make it have as many digits
// at least, and the first of them is greater than as many of its own. Ahead of a 0 no number can stand.
func prefixed(keys []int, reg, count int) []int {
	var name, number []int
	if reg != 0 {
		name = []int{quote, reg}
	}
	if count > 0 {
		number = digits(count)
	}
	switch {
	case count == 0 || keys[0] != '0':
		return slices.Concat(name, number, keys)
	case reg != 0:
		return slices.Concat(number, name, keys)
	}
	return nil
}

func digits(number int) []int {
	var keys []int
	for _, digit := range strconv.Itoa(number) {
		keys = append(keys, int(digit))
	}
	return keys
}
