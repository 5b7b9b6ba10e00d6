package register_test

import (
	"slices"
	"testing"

	"copyist/api"
	"copyist/register"
)

var noKinds = []int{-1, 2, 3, 7, -1 << 63, 1<<63 - 1, 1 << 32, 1<<32 + 1}

// some is a bank in which much stands, and whose unnamed register points to 3.
func some() *register.Bank {
	b := register.New()
	b.Yank('a', rows("a"))
	b.Yank('m', chars("m"))
	b.Yank(0, chars("0"))
	b.Delete(0, chars("-"))
	b.Delete(0, rows("2"))
	b.Delete(0, chars("1n1"))
	b.Set(':', spell(":"))
	b.Yank('3', rows("3r"))
	return b
}

// TestNoName: what the table does not name is ErrReg in every call, ahead of every other error.
func TestNoName(t *testing.T) {
	b := some()
	was := look(b)
	tooLong := long(api.MaxReg + 1)
	for _, name := range strange() {
		if r, err := b.Get(name); err != api.ErrReg || r.Kind != 0 || r.Text != nil {
			t.Fatalf("Get(%d) = %v, %d", name, r, err)
		}
		for _, kind := range append(noKinds, api.ByChars, api.ByLines) {
			for _, text := range [][]int{nil, spell("x"), spell("xn"), tooLong} {
				is(t, "Yank", b.Yank(name, api.Reg{Kind: kind, Text: text}), api.ErrReg)
				is(t, "Delete", b.Delete(name, api.Reg{Kind: kind, Text: text}), api.ErrReg)
			}
		}
		is(t, "Set", b.Set(name, nil), api.ErrReg)
		is(t, "Set", b.Set(name, spell("x")), api.ErrReg)
		is(t, "Set", b.Set(name, tooLong), api.ErrReg)
	}
	stays(t, "no name", b, was)
}

// TestOnlyRead: . : / are refused ahead of the kind and the length, but not by Set.
func TestOnlyRead(t *testing.T) {
	for _, name := range keeps {
		b := some()
		was := look(b)
		for _, kind := range append(noKinds, api.ByChars, api.ByLines) {
			for _, text := range [][]int{nil, spell("x"), spell("xn"), long(api.MaxReg + 1)} {
				is(t, "Yank", b.Yank(name, api.Reg{Kind: kind, Text: text}), api.ErrRead)
				is(t, "Delete", b.Delete(name, api.Reg{Kind: kind, Text: text}), api.ErrRead)
			}
		}
		stays(t, "only read", b, was)
		is(t, "Set", b.Set(name, spell("xny")), api.OK)
		holds(t, b, chars("xny"), name)
		holds(t, b, rows("3r"), 0)
		is(t, "Set", b.Set(name, nil), api.OK)
		empty(t, b, name)
	}
}

// TestNoKind: ErrArg ahead of ErrLong, for the hole and the unnamed register too, whatever the text.
func TestNoKind(t *testing.T) {
	b := some()
	was := look(b)
	for _, name := range append(writable(), 0, '"', '_') {
		for _, kind := range noKinds {
			for _, text := range [][]int{nil, spell("x"), spell("xn"), long(api.MaxReg + 1)} {
				is(t, "Yank", b.Yank(name, api.Reg{Kind: kind, Text: text}), api.ErrArg)
				is(t, "Delete", b.Delete(name, api.Reg{Kind: kind, Text: text}), api.ErrArg)
			}
		}
	}
	stays(t, "no kind", b, was)
}

// TestEveryName: each name of the table, written by each call on a bank of its own, holds what was written, alone, and
// the unnamed register points there behind Yank and Delete.
func TestEveryName(t *testing.T) {
	for _, name := range writable() {
		held := name
		if name >= 'A' && name <= 'Z' {
			held += 'a' - 'A'
		}
		for _, take := range []func(*register.Bank, int, api.Reg) api.Errno{(*register.Bank).Yank, (*register.Bank).Delete} {
			for _, c := range []struct{ in, out api.Reg }{{chars("x"), chars("x")}, {rows("x"), rows("xn")}, {rows(""), rows("n")}, {chars("xny"), chars("xny")}} {
				b := register.New()
				is(t, "taken", take(b, name, c.in), api.OK)
				holds(t, b, c.out, name, held, 0, '"')
				named(t, b, held)
			}
			b := register.New()
			is(t, "nothing taken", take(b, name, chars("")), api.OK)
			empty(t, b, name, held, 0, '"')
			named(t, b)
		}
		b := register.New()
		is(t, "set", b.Set(name, spell("x")), api.OK)
		holds(t, b, chars("x"), name, held)
		empty(t, b, 0, '"')
		named(t, b, held)
	}
}

// TestUnnamed: 0 and 34 are one name in every call.
func TestUnnamed(t *testing.T) {
	for _, name := range []int{0, '"'} {
		b := register.New()
		is(t, "Yank", b.Yank(name, rows("y")), api.OK)
		holds(t, b, rows("yn"), '0', 0, '"')
		named(t, b, '0')
		is(t, "Delete", b.Delete(name, chars("d")), api.OK)
		holds(t, b, chars("d"), '-', 0, '"')
		is(t, "Delete", b.Delete(name, chars("dr")), api.OK)
		holds(t, b, chars("dr"), '1', 0, '"')
		was := look(b)
		for _, text := range [][]int{nil, spell("x"), long(api.MaxReg + 1)} {
			is(t, "Set", b.Set(name, text), api.ErrReg)
		}
		is(t, "Yank, nothing", b.Yank(name, chars("")), api.OK)
		is(t, "Delete, nothing", b.Delete(name, chars("")), api.OK)
		stays(t, "the unnamed register", b, was)
	}
}

// TestHole: what is written into it is gone, however long it is, and nothing points there.
func TestHole(t *testing.T) {
	for _, b := range []*register.Bank{register.New(), some()} {
		was := look(b)
		for _, text := range [][]int{nil, spell("x"), spell("xn"), long(api.MaxReg), long(api.MaxReg + 1), long(3 * api.MaxReg)} {
			for _, kind := range []int{api.ByChars, api.ByLines} {
				is(t, "Yank", b.Yank('_', api.Reg{Kind: kind, Text: text}), api.OK)
				is(t, "Delete", b.Delete('_', api.Reg{Kind: kind, Text: text}), api.OK)
			}
			is(t, "Set", b.Set('_', text), api.OK)
			empty(t, b, '_')
		}
		stays(t, "the hole", b, was)
	}
}

// TestSet, P1106: the register is turned or emptied, whatever it held; the unnamed one points where it pointed.
func TestSet(t *testing.T) {
	for _, name := range append(writable(), keeps...) {
		b := some()
		points, _ := b.Get(0)
		if name == '3' {
			points = chars("s")
		}
		great := name >= 'A' && name <= 'Z'
		if was, err := b.Get(name); great && err == api.OK { // A and M hold something
			is(t, "Set, nothing appended", b.Set(name, nil), api.OK)
			holds(t, b, was, name)
			continue
		}
		is(t, "Set", b.Set(name, spell("s")), api.OK)
		holds(t, b, chars("s"), name)
		holds(t, b, points, 0)
		is(t, "Set without atoms", b.Set(name, []int{}), api.OK)
		if great {
			holds(t, b, chars("s"), name)
			continue
		}
		empty(t, b, name)
		if slices.Contains(b.Names(), name) {
			t.Fatalf("%d is named, but empty", name)
		}
		if name == '3' {
			empty(t, b, 0)
			b.Set('3', spell("back"))
			holds(t, b, chars("back"), 0, '"')
		}
	}
}

// TestPoints: behind each call the unnamed register is the one that was written last by Yank or Delete, as it is now.
func TestPoints(t *testing.T) {
	b := register.New()
	b.Set('a', spell("a"))
	empty(t, b, 0)
	b.Yank('A', chars("b"))
	holds(t, b, chars("ab"), 0)
	b.Set('a', spell("c"))
	holds(t, b, chars("c"), 0)
	b.Set('A', spell("d"))
	holds(t, b, chars("cd"), 0)
	b.Set('a', nil)
	empty(t, b, 0)
	b.Set('A', spell("e"))
	holds(t, b, chars("e"), 0)
	b.Yank('a', chars(""))
	b.Yank('_', chars("x"))
	b.Yank('.', chars("x"))
	b.Yank('a', api.Reg{Kind: 7})
	b.Yank('b', api.Reg{Text: long(api.MaxReg + 1)})
	b.Delete(0, api.Reg{Text: long(api.MaxReg + 1)})
	holds(t, b, chars("e"), 0)
	b.Delete('7', rows("f"))
	holds(t, b, rows("fn"), 0, '7')
	b.Delete(0, rows("g"))
	holds(t, b, rows("gn"), 0, '1')
	holds(t, b, rows("fn"), '8')
	b.Yank('1', chars("h"))
	holds(t, b, chars("h"), 0, '1')
	b.Yank('-', chars("i"))
	holds(t, b, chars("i"), 0, '-')
	b.Delete('-', rows("j"))
	holds(t, b, rows("jn"), 0, '-')
	b.Yank(0, chars("k"))
	holds(t, b, chars("k"), 0, '0')
	b.Set('0', nil)
	empty(t, b, 0, '0')
	b.Yank('0', chars("l"))
	holds(t, b, chars("l"), 0, '0')
}

// TestNames, P1108: rising, small letters only.
func TestNames(t *testing.T) {
	b := register.New()
	want := []int{}
	all := append(writable(), keeps...)
	for i := range all {
		name := all[i*29%len(all)]
		b.Set(name, spell("x"))
		if name >= 'A' && name <= 'Z' {
			name += 'a' - 'A'
		}
		if !slices.Contains(want, name) {
			want = append(want, name)
		}
		slices.Sort(want)
		named(t, b, want...)
	}
	if len(want) != 26+10+1+3 {
		t.Fatal(want)
	}
	for len(want) > 0 {
		at := len(want) * 7 % 5 % len(want)
		b.Set(want[at], nil)
		want = slices.Delete(want, at, at+1)
		named(t, b, want...)
	}
}
