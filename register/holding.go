package register

// holding is what a register holds. What is appended lies in a part of its own: so a register that is filled line by line isn't copied with each of them.
type holding struct {
	kind int
	size int // in atoms
	last *part
}

// part is some atoms of a text, and those ahead of them. It is never written again.
type part struct {
	ahead *part
	text  []int
}

// with is a text with more behind it.
func (h holding) with(text []int) holding {
	h.last = &part{ahead: h.last, text: text}
	h.size += len(text)
	return h
}

// atoms are the last n atoms that end with a part, in memory of their own.
func (p *part) atoms(n int) []int {
	out := make([]int, n)
	for n > 0 {
		from := max(len(p.text)-n, 0)
		n -= copy(out[n-(len(p.text)-from):], p.text[from:])
		p = p.ahead
	}
	return out
}
