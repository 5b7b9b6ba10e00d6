package modal

import (
	"slices"

	"copyist/api"
	"copyist/glyph"
	"copyist/pattern"
)

// seek goes from match to match of the last search.
func (m *Machine) seek(count int, back bool) (api.Land, api.Errno) {
	if len(m.Find) == 0 {
		return api.Land{}, api.ErrEmpty
	}
	p, _, err := pattern.Compile(m.Find, m.Set.IgnoreCase)
	if err != api.OK {
		return api.Land{}, err
	}
	at, first := m.At, 0
	for step := 1; step <= count; step++ {
		span, err := p.Search(m.text(), at, back, !m.Set.NoWrap)
		if err != api.OK {
			return api.Land{}, err
		}
		at = span.From
		switch {
		case step == 1:
			first = at
		case at == first: // it has been round the text: more whole rounds lead nowhere else
			count = step + (count-step)%(step-1)
		}
	}
	return api.Land{At: at, Kind: api.Exclusive}, api.OK
}

// setSearch makes a pattern the last search.
func (m *Machine) setSearch(src []int, back bool) api.Errno {
	if _, _, err := pattern.Compile(src, m.Set.IgnoreCase); err != api.OK {
		return err
	}
	m.Find, m.back = slices.Clone(src), back
	m.Bank.Set(ofPattern, src)
	return api.OK
}

// setSearchHere makes the word at the cursor, or the next one of its line, the last search.
func (m *Machine) setSearchHere(back bool) api.Errno {
	line := m.here()
	word := letters(m.text().Atoms(line.From, line.To), m.At-line.From)
	if len(word) == 0 {
		return api.ErrObject
	}
	return m.setSearch(slices.Concat([]int{'\\', '<'}, word, []int{'\\', '>'}), back)
}

// letters is the first stretch of letters that ends behind an offset.
func letters(content []int, at int) []int {
	first := max(at, 0)
	for first < len(content) && !isLetter(content[first]) {
		first++
	}
	if first >= len(content) {
		return nil
	}
	end := first
	for end < len(content) && isLetter(content[end]) {
		end++
	}
	return content[sameBack(content, first, glyph.Letter):end]
}

func isLetter(atom int) bool { return glyph.Word(atom) == glyph.Letter }
