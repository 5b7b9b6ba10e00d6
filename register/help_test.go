package register_test

import (
	"slices"
	"testing"

	"copyist/api"
	"copyist/register"
)

// spell is the text that letters stand for: n is the atom 10, r 13, a blank nothing.
func spell(s string) []int {
	text := []int{}
	for _, c := range s {
		switch c {
		case ' ':
		case 'n':
			text = append(text, 10)
		case 'r':
			text = append(text, 13)
		default:
			text = append(text, int(c))
		}
	}
	return text
}

func chars(s string) api.Reg { return api.Reg{Kind: api.ByChars, Text: spell(s)} }

func rows(s string) api.Reg { return api.Reg{Kind: api.ByLines, Text: spell(s)} }

// long is a text of n atoms, no two neighbours of which are alike, without a break.
func long(n int) []int {
	text := make([]int, n)
	for i := range text {
		text[i] = 1000 + i%97
	}
	return text
}

func same(a, b api.Reg) bool { return a.Kind == b.Kind && slices.Equal(a.Text, b.Text) }

// short is a Reg as a test tells it.
func short(r api.Reg) any {
	if len(r.Text) > 20 {
		return []int{r.Kind, len(r.Text)}
	}
	return r
}

func holds(t *testing.T, b *register.Bank, want api.Reg, names ...int) {
	t.Helper()
	for _, name := range names {
		if r, err := b.Get(name); err != api.OK || !same(r, want) {
			t.Fatalf("Get(%d) = %v, %d, want %v", name, short(r), err, short(want))
		}
	}
}

func empty(t *testing.T, b *register.Bank, names ...int) {
	t.Helper()
	for _, name := range names {
		if r, err := b.Get(name); err != api.ErrEmpty || r.Kind != 0 || r.Text != nil {
			t.Fatalf("Get(%d) = %v, %d, want nothing and ErrEmpty", name, short(r), err)
		}
	}
}

func named(t *testing.T, b *register.Bank, want ...int) {
	t.Helper()
	if got := b.Names(); !slices.Equal(got, want) {
		t.Fatalf("Names() = %v, want %v", got, want)
	}
}

func is(t *testing.T, what string, got, want api.Errno) {
	t.Helper()
	if got != want {
		t.Fatalf("%s: %d, want %d", what, got, want)
	}
}

// writable are the names under which Yank and Delete write a register; keeps, what the machine writes by Set alone.
func writable() []int {
	return spell1("abcdefghijklmnopqrstuvwxyzABCDEFGHIJKLMNOPQRSTUVWXYZ0123456789-")
}

func spell1(s string) []int {
	var names []int
	for _, c := range s {
		names = append(names, int(c))
	}
	return names
}

var keeps = []int{'.', ':', '/'}

// strange are numbers that no register has: all near the names, and far ones.
func strange() []int {
	names := slices.Concat(writable(), keeps, []int{0, '"', '_'})
	var none []int
	for n := -300; n <= 600; n++ {
		if !slices.Contains(names, n) {
			none = append(none, n)
		}
	}
	far := []int{-1 << 63, 1<<63 - 1, 'a' + 1<<32, 'a' + 1<<16, 'a' - 1<<32, 34 + 1<<32, 1 << 32, 1 << 40, -'a', 'a' + 256}
	return append(none, far...)
}

// sight is all that the calls tell of a bank.
type sight struct {
	names []int
	regs  map[int]api.Reg
}

func look(b *register.Bank) sight {
	s := sight{names: b.Names(), regs: map[int]api.Reg{}}
	for name := -1; name < 130; name++ {
		if r, err := b.Get(name); err == api.OK {
			s.regs[name] = r
		}
	}
	return s
}

func (s sight) equal(o sight) bool {
	if !slices.Equal(s.names, o.names) || len(s.regs) != len(o.regs) {
		return false
	}
	for name, r := range s.regs {
		if q, ok := o.regs[name]; !ok || !same(q, r) {
			return false
		}
	}
	return true
}

// stays says that a bank tells what it told.
func stays(t *testing.T, what string, b *register.Bank, was sight) {
	t.Helper()
	if !look(b).equal(was) {
		t.Fatalf("%s: the bank has changed", what)
	}
}
